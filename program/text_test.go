package program_test

import (
	"fmt"
	"math/rand"
	"regexp"
	"slices"
	"strconv"
	"strings"
	"testing"

	"sheetmetal/api"
	"sheetmetal/program"
)

func TestTexts(t *testing.T) {
	cutting := []api.Op{move(105, 105), move(100, 100), line(110, 100), stamp(rect(7, -8, 3, 4)), line(110, 110), breaks(-5, 110), move(0, 0)}
	for _, x := range []struct {
		name    string
		dialect int
		ops     []api.Op
		want    string
	}{
		{"no operations", api.Absolute, nil, ""},
		{"no operations", api.Incremental, nil, ""},
		{"no operations", api.Press, nil, ""},
		{"absolute", api.Absolute, cutting, "move 105 105\nmove 100 100\nline 110 100\nstamp 7 -8 3 4\nline 110 110\nbreak -5 110\nmove 0 0\n"},
		{"incremental", api.Incremental, cutting, "m 105 105\nm -5 -5\nl 10 0\ns -103 -108 3 4\nl 0 10\nb -115 0\nm 5 -110\n"},
		{"stamps first", api.Incremental, []api.Op{stamp(rect(5, 6, 7, 8)), stamp(rect(9, 9, 1, 1)), move(2, 3), stamp(rect(5, 6, 7, 8)), stamp(rect(5, 6, 7, 8))}, "s 5 6 7 8\ns 9 9 1 1\nm 2 3\ns 3 3 7 8\ns 3 3 7 8\n"},
		{"press", api.Press, []api.Op{mount(1, 8), bend(4, 1, 0, 8), bend(0, 0, 1, 3), mount(0, 0)}, "mount 1 8\nbend 4 1 0 8\nbend 0 0 1 3\nmount 0 0\n"},
		{"press, any numbers", api.Press, []api.Op{mount(-1, -2), bend(-3, 4, -5, 6), mount(top, -top)}, "mount -1 -2\nbend -3 4 -5 6\nmount 1048576 -1048576\n"},
		{"no rectangle", api.Absolute, []api.Op{stamp(rect(0, 0, 0, -1))}, "stamp 0 0 0 -1\n"},
		{"the greatest numbers", api.Absolute, []api.Op{move(top, -top), stamp(rect(-top, top, top, -top))}, "move 1048576 -1048576\nstamp -1048576 1048576 1048576 -1048576\n"},
		{"the greatest differences", api.Incremental, []api.Op{move(top, -top), line(-top, top), stamp(rect(top, -top, top, -top))}, "m 1048576 -1048576\nl -2097152 2097152\ns 2097152 -2097152 1048576 -1048576\n"},
	} {
		if s, e := program.FormatOps(x.dialect, x.ops); e != api.OK || s != x.want {
			t.Errorf("%s: %q, %v", x.name, s, e)
		}
		if l, e := program.ParseOps(x.dialect, x.want); e != api.OK || !slices.Equal(l, x.ops) {
			t.Error(x.name, l, e)
		}
	}
}

func TestErrorsOfFormatOps(t *testing.T) {
	cutting, bending := []api.Op{move(1, 2), line(1, 2), breaks(1, 2), stamp(rect(1, 2, 3, 4))}, []api.Op{mount(1, 2), bend(1, 2, 3, 4)}
	refused := func(dialect int, o api.Op) {
		t.Helper()
		for _, ops := range [][]api.Op{{o}, {cutting[0], o}, {bending[0], o}, {o, cutting[0]}} {
			if s, e := program.FormatOps(dialect, ops); e != api.ErrProgram || s != "" {
				t.Errorf("%d %v: %q, %v", dialect, ops, s, e)
			}
		}
	}
	for _, dialect := range []int{api.Absolute, api.Incremental, api.Press} {
		fine, other := cutting, bending
		if dialect == api.Press {
			fine, other = bending, cutting
		}
		for _, o := range other {
			refused(dialect, o)
		}
		for _, o := range fine {
			if s, e := program.FormatOps(dialect, []api.Op{o}); e != api.OK || s == "" {
				t.Error(dialect, o, s, e)
			}
			for i := range 5 {
				for _, n := range append(wild, 1, -1, top) {
					c := o
					field := []*int{&c.X, &c.Y, &c.W, &c.H, &c.N}[i]
					isUsed := *field != 0
					if *field = n; isUsed && -top <= n && n <= top {
						continue
					}
					refused(dialect, c)
				}
			}
		}
		for _, kind := range append(wild, -1, 0, 7) {
			refused(dialect, api.Op{Kind: kind})
			refused(dialect, api.Op{Kind: kind, X: 1, Y: 2})
		}
	}
}

func TestOrderOfErrorsOfTexts(t *testing.T) {
	many := slices.Repeat([]api.Op{move(1, 1)}, api.MaxOps)
	tooMany := slices.Concat([]api.Op{{}}, many)
	for _, dialect := range append(wild, -1, 0, 4) {
		if s, e := program.FormatOps(dialect, tooMany); e != api.ErrArg || s != "" {
			t.Error(dialect, s, e)
		}
		if s, e := program.FormatOps(dialect, nil); e != api.ErrArg || s != "" {
			t.Error(dialect, s, e)
		}
		for _, text := range []string{"", "x", strings.Repeat("x", 40*api.MaxOps+1)} {
			if l, e := program.ParseOps(dialect, text); e != api.ErrArg || len(l) != 0 {
				t.Error(dialect, l, e)
			}
		}
	}
	for _, dialect := range []int{api.Absolute, api.Incremental, api.Press} {
		if s, e := program.FormatOps(dialect, tooMany); e != api.ErrLarge || s != "" {
			t.Error(dialect, s, e)
		}
		if l, e := program.ParseOps(dialect, strings.Repeat("x", 40*api.MaxOps+1)); e != api.ErrLarge || len(l) != 0 {
			t.Error(dialect, l, e)
		}
		for _, text := range []string{strings.Repeat("x", 40*api.MaxOps), strings.Repeat("\n", 40*api.MaxOps), strings.Repeat(" ", 40*api.MaxOps)} {
			if l, e := program.ParseOps(dialect, text); e != api.ErrSyntax || len(l) != 0 {
				t.Error(dialect, l, e)
			}
		}
	}
	if s, e := program.FormatOps(api.Absolute, many); e != api.OK || s != strings.Repeat("move 1 1\n", api.MaxOps) {
		t.Error("as many as may be", e)
	}
	if s, e := program.FormatOps(api.Absolute, tooMany[:api.MaxOps]); e != api.ErrProgram || s != "" {
		t.Error("not too many", e)
	}
	if l, e := program.ParseOps(api.Absolute, strings.Repeat("move 1 1\n", api.MaxOps)); e != api.OK || !slices.Equal(l, many) {
		t.Error("as many lines as may be", e)
	}
	if l, e := program.ParseOps(api.Absolute, strings.Repeat("move 1 1\n", api.MaxOps+1)); e != api.ErrSyntax || len(l) != 0 {
		t.Error("a line too many", e)
	}
}

// TestLongestText has lines of 40 bytes: one byte more is too many, even if FormatOps writes it.
func TestLongestText(t *testing.T) {
	long := stamp(rect(-top, -top, top, top))
	ops := slices.Repeat([]api.Op{long}, api.MaxOps)
	text, e := program.FormatOps(api.Absolute, ops)
	if e != api.OK || len(text) != 40*api.MaxOps {
		t.Fatal(len(text), e)
	}
	if l, e := program.ParseOps(api.Absolute, text); e != api.OK || !slices.Equal(l, ops) {
		t.Error(e)
	}
	ops[api.MaxOps-1].W = -top
	text, e = program.FormatOps(api.Absolute, ops)
	if e != api.OK || len(text) != 40*api.MaxOps+1 {
		t.Fatal(len(text), e)
	}
	if l, e := program.ParseOps(api.Absolute, text); e != api.ErrLarge || len(l) != 0 {
		t.Error(e)
	}
}

func TestNoTexts(t *testing.T) {
	lines := map[int][]string{
		api.Absolute:    {"move 1 2", "line -1 2", "break 0 -2", "stamp 1 2 3 4"},
		api.Incremental: {"m 1 2", "l -1 2", "b 0 -2", "s 1 2 3 4"},
		api.Press:       {"mount 1 2", "bend 1 2 3 4"},
	}
	for dialect, fine := range lines {
		for _, line := range fine {
			if l, e := program.ParseOps(dialect, line+"\n"); e != api.OK || len(l) != 1 {
				t.Error(dialect, line, l, e)
			}
			word, numbers, _ := strings.Cut(line, " ")
			first, rest, _ := strings.Cut(numbers, " ")
			for _, text := range []string{
				line, line + "\n\n", "\n" + line + "\n", line + "\r\n", line + " \n", " " + line + "\n", line + "\n" + line, line + "\x00\n", line + " 5\n", line + "0x\n",
				word, word + "\n", word + " \n", word + " 1\n", word + " 1 2 3\n", word + " 1 2 3 4 5\n", word + " a b c d\n", word + " a b\n", word + "\n" + numbers + "\n",
				strings.ToUpper(word) + " " + numbers + "\n", word + "s " + numbers + "\n", "x " + numbers + "\n", " " + numbers + "\n", numbers + "\n",
				word + "  " + numbers + "\n", word + "\t" + numbers + "\n", word + " " + first + "  " + rest + "\n", word + " " + first + "\t" + rest + "\n",
				word + " 0" + numbers + "\n", word + " +" + first + " " + rest + "\n", word + " -0 " + rest + "\n", word + " 1.0 " + rest + "\n", word + " 1e1 " + rest + "\n", word + " 0x1 " + rest + "\n", word + " 1_0 " + rest + "\n",
				word + " 1048577 " + rest + "\n", word + " -1048577 " + rest + "\n", word + " 9223372036854775807 " + rest + "\n", word + " -9223372036854775808 " + rest + "\n", word + " 18446744073709551617 " + rest + "\n", word + " 9223372036854775809 " + rest + "\n",
				word + " \uff11 " + rest + "\n", word + " -- " + rest + "\n", word + " - " + rest + "\n", word + "  " + rest + "\n",
			} {
				if l, e := program.ParseOps(dialect, text); e != api.ErrSyntax || len(l) != 0 {
					t.Errorf("%d %q: %v, %v", dialect, text, l, e)
				}
			}
			for other := range lines {
				if l, e := program.ParseOps(other, line+"\n"); other != dialect && (e != api.ErrSyntax || len(l) != 0) {
					t.Error(other, line, l, e)
				}
			}
		}
	}
	// Differences that lead out of the range, and one that leads back by a wrap.
	for _, text := range []string{"m 1048576 0\nl 1 0\n", "m 0 -1048576\nl 0 -1\n", "m 1048576 0\ns 1 0 1 1\n", "m 1 0\nl 9223372036854775807 0\n", "m -1 0\nl -9223372036854775808 0\nl -9223372036854775808 0\n", "m 1048577 0\nm -1048577 0\n"} {
		if l, e := program.ParseOps(api.Incremental, text); e != api.ErrSyntax || len(l) != 0 {
			t.Errorf("%q: %v, %v", text, l, e)
		}
	}
}

// written is FormatOps for operations that a dialect has.
func written(dialect int, ops []api.Op) string {
	text, x, y := "", 0, 0
	for _, o := range ops {
		switch word := []string{"", "move", "line", "stamp", "break", "mount", "bend"}[o.Kind]; {
		case o.Kind == api.OpMount:
			text += fmt.Sprintf("mount %d %d\n", o.X, o.N)
		case o.Kind == api.OpBend:
			text += fmt.Sprintf("bend %d %d %d %d\n", o.N, o.X, o.Y, o.W)
		case dialect == api.Incremental && o.Kind == api.OpStamp:
			text += fmt.Sprintf("s %d %d %d %d\n", o.X-x, o.Y-y, o.W, o.H)
		case dialect == api.Incremental:
			text += fmt.Sprintf("%c %d %d\n", word[0], o.X-x, o.Y-y)
			x, y = o.X, o.Y
		case o.Kind == api.OpStamp:
			text += fmt.Sprintf("stamp %d %d %d %d\n", o.X, o.Y, o.W, o.H)
		default:
			text += fmt.Sprintf("%s %d %d\n", word, o.X, o.Y)
		}
	}
	return text
}

// randomClean returns clean operations of a dialect.
func randomClean(r *rand.Rand, dialect, n int) []api.Op {
	number := func() int {
		return []int{r.Intn(30) - 15, r.Intn(2*top+1) - top, top, -top, 0}[r.Intn(5)]
	}
	var ops []api.Op
	for range n {
		o := api.Op{Kind: api.OpMount + r.Intn(2)}
		if dialect != api.Press {
			o.Kind = 1 + r.Intn(4)
		}
		o.X = number()
		if o.Kind != api.OpMount {
			o.Y = number()
		}
		if o.Kind == api.OpStamp || o.Kind == api.OpBend {
			o.W = number()
		}
		if o.Kind == api.OpStamp {
			o.H = number()
		}
		if o.Kind == api.OpMount || o.Kind == api.OpBend {
			o.N = number()
		}
		ops = append(ops, o)
	}
	return ops
}

func TestRandomTexts(t *testing.T) {
	r := rand.New(rand.NewSource(87))
	for range 3000 {
		dialect := 1 + r.Intn(3)
		ops := randomClean(r, dialect, r.Intn(12))
		want := written(dialect, ops)
		if s, e := program.FormatOps(dialect, ops); e != api.OK || s != want {
			t.Fatal(dialect, ops, s, e)
		}
		if l, e := program.ParseOps(dialect, want); e != api.OK || !slices.Equal(l, ops) {
			t.Fatal(dialect, want, l, e)
		}
	}
}

// lineForms has the form of a line in each dialect.
var lineForms = map[int]*regexp.Regexp{api.Absolute: lineForm("move|line|break", "stamp"), api.Incremental: lineForm("m|l|b", "s"), api.Press: lineForm("mount", "bend")}

// lineForm returns the form of lines with words that have two numbers, and with one that has four.
func lineForm(two, four string) *regexp.Regexp {
	const n = ` (0|-?[1-9][0-9]{0,17})`
	return regexp.MustCompile(`^(?:(?:` + two + `)` + n + n + `|` + four + n + n + n + n + `)$`)
}

// isText reports whether a short text is that of a program, by a regular expression and the sums of the differences.
func isText(dialect int, text string) bool {
	if text != "" && !strings.HasSuffix(text, "\n") {
		return false
	}
	x, y := 0, 0
	for _, line := range strings.Split(text, "\n")[:strings.Count(text, "\n")] {
		if !lineForms[dialect].MatchString(line) {
			return false
		}
		var numbers []int
		for _, word := range strings.Split(line, " ")[1:] {
			number, _ := strconv.Atoi(word)
			numbers = append(numbers, number)
		}
		if dialect == api.Incremental {
			numbers[0], numbers[1] = numbers[0]+x, numbers[1]+y
			if len(numbers) == 2 {
				x, y = numbers[0], numbers[1]
			}
		}
		for _, number := range numbers {
			if number < -top || number > top {
				return false
			}
		}
	}
	return true
}

func TestSpoiltTexts(t *testing.T) {
	r := rand.New(rand.NewSource(88))
	accepted := 0
	for range 20000 {
		dialect := 1 + r.Intn(3)
		text := []byte(written(dialect, randomClean(r, dialect, 1+r.Intn(4))))
		for range 1 + r.Intn(2) {
			i := r.Intn(len(text))
			b := "0123456789- \nmlbsx+"[r.Intn(19)]
			switch r.Intn(3) {
			case 0:
				text[i] = b
			case 1:
				text = slices.Insert(text, i, b)
			case 2:
				if len(text) > 1 {
					text = slices.Delete(text, i, i+1)
				}
			}
		}
		l, e := program.ParseOps(dialect, string(text))
		if want := isText(dialect, string(text)); want != (e == api.OK) || e != api.OK && (e != api.ErrSyntax || len(l) != 0) {
			t.Fatalf("%d %q: %v, %v", dialect, text, l, e)
		}
		if e != api.OK {
			continue
		}
		accepted++
		if s, e := program.FormatOps(dialect, l); e != api.OK || s != string(text) {
			t.Fatalf("%d %q: %q, %v", dialect, text, s, e)
		}
	}
	if accepted < 2000 {
		t.Error("too few", accepted)
	}
}
