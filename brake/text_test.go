package brake_test

import (
	"math/rand"
	"reflect"
	"slices"
	"strings"
	"testing"

	"sheetmetal/api"
	"sheetmetal/brake"
)

const pressText = "machine press 2\npunch p 200\npoly 0 0 -5 30 -10 30\ndie d 10 200\npoly -5 0 5 0 0 -10\ngauge 0 100 0 -5 0 5 -10 5 -10 -5\n"

const workshopText = `machine shop9 3
punch p1 1000
poly 0 0 3 9 -3 9
poly -1 9 1 9 1 1000 -1 1000
punch p2 1
poly 0 0 -1000 1000 1000 1000 0 500 0 0 5 5
punch p3 30
poly 0 0 1 5 0 5
poly 0 5 1 5 1 8
poly 0 8 1 8 1 9
die d1 1000 1
poly -5 0 0 -10 5 0
poly -5 -10 5 -10 0 -1000
die d2 1 1000
poly -2 0 2 0 2 -7 -2 -7
frame 500 -20 600 -20 600 20 500 20
frame -1000 -1000 1000 -1000 1000 -990
gauge 3 900 0 0 -100 100 -100 -100
`

// sameMachine reports whether two machines are equal, where nil and empty lists are the same.
func sameMachine(a, b api.Machine) bool {
	if len(a.Frame) == 0 && len(b.Frame) == 0 {
		a.Frame, b.Frame = nil, nil
	}
	return reflect.DeepEqual(a, b)
}

func TestFormatMachine(t *testing.T) {
	for _, x := range []struct {
		m    api.Machine
		want string
	}{{press(), pressText}, {workshop(), workshopText}} {
		m := copyOf(x.m)
		if text, e := brake.FormatMachine(m); e != api.OK || text != x.want || !reflect.DeepEqual(m, x.m) {
			t.Error(text, e)
		}
		if m, e := brake.ParseMachine(x.want); e != api.OK || !sameMachine(m, x.m) {
			t.Error(m, e)
		}
	}
	for _, m := range []api.Machine{
		{},
		altered(press(), func(m *api.Machine) { m.Stations = 0 }),
		altered(press(), func(m *api.Machine) { m.Punches[0].Name = "a b" }),
	} {
		if text, e := brake.FormatMachine(m); e != api.ErrTool || text != "" {
			t.Error(text, e)
		}
	}
}

func TestParseMachineErrors(t *testing.T) {
	replace := func(old, with string) string {
		if !strings.Contains(workshopText, old) {
			t.Error("the text has not", old)
		}
		return strings.Replace(workshopText, old, with, 1)
	}
	for _, text := range []string{
		"", "\n", " ", "machine", "machine press 2", "machine press 2\n", "punch", "poly", "poly 0 0 0 1 1 1\n", "gauge", "die\n", "frame\n",
		pressText + "\n", pressText + " ", "\n" + pressText, " " + pressText, pressText[1:], pressText[:len(pressText)-1], pressText + pressText,
		strings.ReplaceAll(pressText, "\n", "\r\n"), strings.ReplaceAll(pressText, "\n", "\n\n"), strings.ReplaceAll(pressText, " ", "  "),
		strings.ReplaceAll(pressText, " ", "\t"), strings.ReplaceAll(pressText, "\n", " \n"), strings.ToUpper(pressText),
		replace("machine shop9 3", "machine shop9 4"), replace("machine shop9 3", "machine shop9"), replace("machine shop9 3", "machine shop9 3 3"),
		replace("machine shop9 3", "machine shop9 03"), replace("machine shop9 3", "machine shop9 +3"), replace("machine", "machines"),
		replace("machine shop9 3\n", ""), replace("machine shop9 3\n", "machine shop9 3\nmachine shop9 3\n"),
		replace("punch p2 1\n", "punch p2 -0\n"), replace("punch p2 1\n", "punch p1 1\n"), replace("punch p2 1\n", "die p2 1 1\n"), replace("punch p1 1000\n", ""),
		replace("punch p3 30", "punch p3 30 30"),
		replace("poly 0 0 1 5 0 5", "poly 0 0 1 5 0"), replace("poly 0 0 1 5 0 5", "poly 0 0 1 5 0 5 7"), replace("poly 0 0 1 5 0 5", "poly 0 0 1 5"),
		replace("poly 0 0 1 5 0 5", "poly 0 0 -0 5 0 5"), replace("poly 0 0 1 5 0 5", "poly 0 0 1e1 5 0 5"), replace("poly 0 0 1 5 0 5", "poly 0 0 1 5 0 x"),
		replace("poly 0 0 1 5 0 5", "poly 0 0 2 5 0 -5"), replace("poly 0 0 1 5 0 5", "frame 0 0 1 5 0 5"), replace("poly 0 0 1 5 0 5", "poly 0 0 1 1 2 2"),
		replace("poly 0 0 1 5 0 5", "gauge 0 0 1 5 0 5"), replace("poly 0 0 1 5 0 5", "poly 0 0 9223372036854775808 5 0 5"),
		replace("die d2 1 1000", "die d2 1 1001"), replace("die d2 1 1000", "die d2 1"), replace("die d2 1 1000", "die d1 1 1000"), replace("die d2", "dies d2"),
		replace("die d2 1 1000\n", ""+"die d2 1 1000\npunch p4 5\n"), replace("frame 500", "frames 500"), replace("frame 500 -20", "frame 500 -20 -20"),
		replace("gauge 3 900", "gauge 3"), replace("gauge 3 900", "gauge 901 900"), replace("gauge 3 900 0 0", "gauge 3 900 1 0"), replace("gauge 3 900", "gauge 3 900 900"),
		replace("gauge 3 900", "gauge 03 900"), workshopText + "gauge 3 900 0 0 -100 100 -100 -100\n", workshopText + "frame 0 0 1 1 0 1\n", workshopText + "poly 0 0 1 1 0 1\n",
		strings.Repeat("punch p 1\n", api.MaxText/10), strings.Repeat("x", api.MaxText), strings.Repeat("\n", api.MaxText), strings.Repeat(" ", api.MaxText),
	} {
		if m, e := brake.ParseMachine(text); e != api.ErrSyntax || !reflect.DeepEqual(m, api.Machine{}) {
			t.Errorf("%q: %v, %v", text, m, e)
		}
	}
	for _, text := range []string{strings.Repeat("x", api.MaxText+1), pressText + strings.Repeat("\n", api.MaxText)} {
		if m, e := brake.ParseMachine(text); e != api.ErrLarge || !reflect.DeepEqual(m, api.Machine{}) {
			t.Error(len(text), m, e)
		}
	}
}

// TestParseMachineOrder exchanges lines: a polygon may get to another tool of its kind, but all else has its place.
func TestParseMachineOrder(t *testing.T) {
	lines := strings.SplitAfter(workshopText, "\n")
	lines = lines[:len(lines)-1]
	accepted := 0
	for i := range lines {
		for k := range i {
			l := slices.Clone(lines)
			l[i], l[k] = l[k], l[i]
			text := strings.Join(l, "")
			m, e := brake.ParseMachine(text)
			if e == api.ErrSyntax {
				continue
			}
			accepted++
			if again, e2 := brake.FormatMachine(m); e != api.OK || e2 != api.OK || again != text || sameMachine(m, workshop()) {
				t.Errorf("%q: %v, %q, %v", text, e, again, e2)
			}
			first, second := strings.Fields(l[i])[0], strings.Fields(l[k])[0]
			isTool := func(word string) bool { return word == "punch" || word == "die" }
			if first != second && !(first == "poly" && isTool(second)) && !(second == "poly" && isTool(first)) {
				t.Errorf("%q: %v", text, m)
			}
		}
	}
	if accepted < 10 {
		t.Error("too few texts are accepted", accepted)
	}
}

func TestParseMachineOfRandomTexts(t *testing.T) {
	const letters = "0123456789 -\nabcdefghilmnopruy\xff\x00"
	r := rand.New(rand.NewSource(19))
	for range 300 {
		m := randomMachine(r, 300)
		text, e := brake.FormatMachine(m)
		if e != api.OK {
			t.Fatal(m, e)
		}
		if again, e := brake.ParseMachine(text); e != api.OK || !sameMachine(again, m) {
			t.Errorf("%q: %v, %v", text, again, e)
		}
		for range 20 {
			bytes := []byte(text)
			bytes[r.Intn(len(bytes))] = letters[r.Intn(len(letters))]
			changed := string(bytes)
			other, e := brake.ParseMachine(changed)
			if e == api.OK {
				if again, e := brake.FormatMachine(other); e != api.OK || again != changed {
					t.Errorf("%q: %q, %v", changed, again, e)
				}
			} else if e != api.ErrSyntax || !reflect.DeepEqual(other, api.Machine{}) {
				t.Errorf("%q: %v", changed, e)
			}
		}
	}
}
