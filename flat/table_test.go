package flat_test

import (
	"math"
	"math/big"
	"math/rand"
	"slices"
	"strings"
	"testing"

	"sheetmetal/api"
	"sheetmetal/flat"
)

// wild are numbers that are out of the range of any field.
var wild = []int{math.MinInt, math.MinInt + 1, -1 << 32, -1001, 1001, 1 << 32, 1<<32 + 1, 1 << 62, math.MaxInt - 1, math.MaxInt}

// angles are the angles of a table.
var angles = []int{30, 60, 90, 120, 150, 180}

// table returns the table of the chapter's first example.
func table() api.BendTable {
	return api.BendTable{Material: "steel", Gauge: 10, Die: 8, Entries: []api.Entry{{Angle: 90, Num: 7, Den: 2}, {Angle: 180, Num: 1, Den: 2}}}
}

// full returns a table with all angles and each Den.
func full() api.BendTable {
	return api.BendTable{Material: "m", Gauge: api.MaxGauge, Die: api.MaxCoord, Entries: []api.Entry{
		{Angle: 30, Num: 0, Den: 1}, {Angle: 60, Num: 40, Den: 2}, {Angle: 90, Num: 6, Den: 3},
		{Angle: 120, Num: 80, Den: 4}, {Angle: 150, Num: 0, Den: 6}, {Angle: 180, Num: 240, Den: 12},
	}}
}

// changedTable returns the example's table after a change.
func changedTable(change func(t *api.BendTable)) api.BendTable {
	t := table()
	change(&t)
	return t
}

// entries returns a table with these entries.
func entries(l ...api.Entry) api.BendTable {
	return changedTable(func(t *api.BendTable) { t.Entries = l })
}

// brokenTables returns tables that are not valid, each in one respect only.
func brokenTables() []api.BendTable {
	l := []api.BendTable{{}, entries()}
	for _, name := range []string{"", "Steel", "9a", "steel ", "table", "angle", "steel\n", "ninechars"} {
		l = append(l, changedTable(func(t *api.BendTable) { t.Material = name }))
	}
	for _, n := range append([]int{0, -1, 61}, wild...) {
		l = append(l, changedTable(func(t *api.BendTable) { t.Gauge = n }))
	}
	for _, n := range append([]int{0, -1}, wild...) {
		l = append(l, changedTable(func(t *api.BendTable) { t.Die = n }))
	}
	for _, n := range append([]int{0, 1, -90, 29, 31, 45, 89, 91, 181, 210, 240, 360}, wild...) {
		l = append(l, entries(api.Entry{Angle: n, Num: 1, Den: 2}))
		l = append(l, entries(api.Entry{Angle: 30, Num: 1, Den: 2}, api.Entry{Angle: n, Num: 1, Den: 2}))
		l = append(l, entries(api.Entry{Angle: n, Num: 1, Den: 2}, api.Entry{Angle: 180, Num: 1, Den: 2}))
	}
	for _, n := range append([]int{0, -1, -12, 5, 7, 8, 9, 10, 11, 13, 24}, wild...) {
		l = append(l, entries(api.Entry{Angle: 90, Num: 0, Den: n}), entries(api.Entry{Angle: 90, Num: 1, Den: n}))
	}
	for _, den := range []int{1, 2, 3, 4, 6, 12} {
		for _, n := range append([]int{-1, 20*den + 1}, wild...) {
			l = append(l, entries(api.Entry{Angle: 90, Num: n, Den: den}))
			l = append(l, entries(api.Entry{Angle: 60, Num: 1, Den: 1}, api.Entry{Angle: 90, Num: n, Den: den}))
		}
	}
	one := func(angle int) api.Entry { return api.Entry{Angle: angle, Num: 1, Den: 1} }
	l = append(l,
		entries(one(90), one(90)), entries(one(120), one(90)), entries(one(30), one(120), one(90)), entries(one(30), one(90), one(60), one(180)),
		entries(one(30), one(60), one(90), one(120), one(150), one(180), one(180)),
		entries(one(30), one(60), one(90), one(120), one(150), one(180), one(210)),
		entries(one(30), one(30), one(60), one(90), one(120), one(150), one(180)),
	)
	return l
}

func TestValidate(t *testing.T) {
	for _, x := range []api.BendTable{
		table(),
		full(),
		entries(api.Entry{Angle: 30, Num: 0, Den: 12}),
		entries(api.Entry{Angle: 180, Num: 20, Den: 1}),
		entries(api.Entry{Angle: 90, Num: 60, Den: 3}, api.Entry{Angle: 180, Num: 120, Den: 6}),
		changedTable(func(t *api.BendTable) { t.Gauge, t.Die = 1, 1 }),
		changedTable(func(t *api.BendTable) { t.Gauge, t.Die = 60, 1000 }),
		changedTable(func(t *api.BendTable) { t.Material = "a" }),
		changedTable(func(t *api.BendTable) { t.Material = "eightchr" }),
	} {
		if e := flat.Validate(x); e != api.OK {
			t.Error(x, e)
		}
	}
	for _, x := range brokenTables() {
		if e := flat.Validate(x); e != api.ErrTable {
			t.Error(x, e)
		}
	}
}

func TestDeduction(t *testing.T) {
	for _, x := range []struct {
		table api.BendTable
		angle int
		want  api.Rat
	}{
		{table(), 90, rat(7, 2)},
		{table(), 120, rat(5, 2)},
		{table(), 150, rat(3, 2)},
		{table(), 180, rat(1, 2)},
		{full(), 30, rat(0, 1)},
		{full(), 60, rat(20, 1)},
		{full(), 90, rat(2, 1)},
		{full(), 120, rat(20, 1)},
		{full(), 150, rat(0, 1)},
		{full(), 180, rat(20, 1)},
		{entries(api.Entry{Angle: 90, Num: 0, Den: 4}), 90, rat(0, 1)},
		{entries(api.Entry{Angle: 90, Num: 18, Den: 12}), 90, rat(3, 2)},
		{entries(api.Entry{Angle: 30, Num: 1, Den: 3}, api.Entry{Angle: 180, Num: 1, Den: 4}), 60, rat(19, 60)},
		{entries(api.Entry{Angle: 30, Num: 1, Den: 3}, api.Entry{Angle: 180, Num: 1, Den: 4}), 150, rat(4, 15)},
		{entries(api.Entry{Angle: 30, Num: 20, Den: 1}, api.Entry{Angle: 180, Num: 0, Den: 1}), 90, rat(12, 1)},
		{entries(api.Entry{Angle: 30, Num: 0, Den: 1}, api.Entry{Angle: 180, Num: 20, Den: 1}), 150, rat(16, 1)},
		// Only the nearest entries count.
		{entries(api.Entry{Angle: 30, Num: 20, Den: 1}, api.Entry{Angle: 60, Num: 1, Den: 1}, api.Entry{Angle: 120, Num: 2, Den: 1}, api.Entry{Angle: 180, Num: 9, Den: 1}), 90, rat(3, 2)},
		{entries(api.Entry{Angle: 30, Num: 20, Den: 1}, api.Entry{Angle: 60, Num: 1, Den: 1}, api.Entry{Angle: 120, Num: 2, Den: 1}, api.Entry{Angle: 180, Num: 9, Den: 1}), 150, rat(11, 2)},
	} {
		if r, e := flat.Deduction(x.table, x.angle); r != x.want || e != api.OK {
			t.Error(x, r, e)
		}
	}
}

func TestDeductionErrors(t *testing.T) {
	middle := entries(api.Entry{Angle: 90, Num: 1, Den: 1}, api.Entry{Angle: 150, Num: 1, Den: 1})
	for _, angle := range []int{30, 60, 180} {
		if r, e := flat.Deduction(middle, angle); r != (api.Rat{}) || e != api.ErrNone {
			t.Error(angle, r, e)
		}
	}
	for _, angle := range append([]int{0, 1, -1, -30, -90, 29, 31, 89, 91, 100, 179, 181, 210}, wild...) {
		for _, x := range []api.BendTable{table(), middle, full()} {
			if r, e := flat.Deduction(x, angle); r != (api.Rat{}) || e != api.ErrArg {
				t.Error(angle, r, e)
			}
		}
	}
	for _, x := range brokenTables() {
		for _, angle := range []int{30, 90, 91} {
			if r, e := flat.Deduction(x, angle); r != (api.Rat{}) || e != api.ErrTable {
				t.Error(x, angle, r, e)
			}
		}
	}
}

// randomTable returns a valid table with entries for some of the angles.
func randomTable(r *rand.Rand) api.BendTable {
	t := api.BendTable{Material: "m", Gauge: 1 + r.Intn(api.MaxGauge), Die: 1 + r.Intn(api.MaxCoord)}
	for len(t.Entries) == 0 {
		for _, angle := range angles {
			if r.Intn(2) == 0 {
				den := []int{1, 2, 3, 4, 6, 12}[r.Intn(6)]
				t.Entries = append(t.Entries, api.Entry{Angle: angle, Num: r.Intn(20*den + 1), Den: den})
			}
		}
	}
	return t
}

// wantDeduction returns the deduction of an angle by the chapter's formula, and false if there is none.
func wantDeduction(t api.BendTable, angle int) (api.Rat, bool) {
	values := map[int]*big.Rat{}
	for _, x := range t.Entries {
		values[x.Angle] = big.NewRat(int64(x.Num), int64(x.Den))
	}
	x, y := angle, angle
	for ; values[x] == nil; x -= 30 {
		if x < 0 {
			return api.Rat{}, false
		}
	}
	for ; values[y] == nil; y += 30 {
		if y > 180 {
			return api.Rat{}, false
		}
	}
	if x == y {
		return reducedRat(values[x]), true
	}
	rise := new(big.Rat).Sub(values[y], values[x])
	rise.Mul(rise, big.NewRat(int64(angle-x), int64(y-x)))
	return reducedRat(rise.Add(rise, values[x])), true
}

func TestDeductionsOfRandomTables(t *testing.T) {
	r := rand.New(rand.NewSource(2))
	for range 5000 {
		x := randomTable(r)
		for _, angle := range angles {
			want, ok := wantDeduction(x, angle)
			got, e := flat.Deduction(x, angle)
			if got != want || ok != (e == api.OK) || !ok && e != api.ErrNone {
				t.Fatal(x, angle, got, e, want)
			}
			if !ok {
				continue
			}
			if _, e := flat.Ticks(got); e != api.OK {
				t.Fatal(x, angle, got, e)
			}
		}
	}
}

// fullText is the text of the table full.
const fullText = `table m 60 1000
angle 30 0/1
angle 60 40/2
angle 90 6/3
angle 120 80/4
angle 150 0/6
angle 180 240/12
`

func sameTable(a, b api.BendTable) bool {
	return a.Material == b.Material && a.Gauge == b.Gauge && a.Die == b.Die && slices.Equal(a.Entries, b.Entries)
}

func TestFormatTable(t *testing.T) {
	for _, x := range []struct {
		table api.BendTable
		want  string
	}{
		{table(), "table steel 10 8\nangle 90 7/2\nangle 180 1/2\n"},
		{full(), fullText},
		{entries(api.Entry{Angle: 30, Num: 0, Den: 12}), "table steel 10 8\nangle 30 0/12\n"},
	} {
		if s, e := flat.FormatTable(x.table); s != x.want || e != api.OK {
			t.Errorf("%q, %v", s, e)
		}
		if got, e := flat.ParseTable(x.want); !sameTable(got, x.table) || e != api.OK {
			t.Error(got, e)
		}
	}
	for _, x := range brokenTables() {
		if s, e := flat.FormatTable(x); s != "" || e != api.ErrTable {
			t.Errorf("%q, %v", s, e)
		}
	}
}

func TestParseTableOfRandomTables(t *testing.T) {
	r := rand.New(rand.NewSource(3))
	for range 3000 {
		x := randomTable(r)
		s, e := flat.FormatTable(x)
		if e != api.OK {
			t.Fatal(x, e)
		}
		if got, e := flat.ParseTable(s); !sameTable(got, x) || e != api.OK {
			t.Fatal(s, got, e)
		}
	}
}

// refused checks that a text is no table's.
func refused(t *testing.T, text string) {
	t.Helper()
	if got, e := flat.ParseTable(text); e != api.ErrSyntax || !sameTable(got, api.BendTable{}) {
		t.Errorf("%q: %v, %v", text, got, e)
	}
}

func TestParseTableRefusesOtherForms(t *testing.T) {
	for _, x := range [][2]string{
		// What is wanted, and what is written instead of it.
		{"table m 60 1000\n", ""},
		{"table m 60 1000\n", "table m 60 1000\ntable m 60 1000\n"},
		{"table m 60 1000\n", "\ntable m 60 1000\n"},
		{"table m 60 1000\n", "table m 60 1000\n\n"},
		{"table m 60 1000\n", "table m 60 1000\r\n"},
		{"table m 60 1000\n", "table m 60 1000 "},
		{"table m 60 1000", "table m 60"},
		{"table m 60 1000", "table m 60 1000 1"},
		{"table m 60 1000", "table m 60 1000 "},
		{"table m 60 1000", " table m 60 1000"},
		{"table m 60 1000", "table  m 60 1000"},
		{"table m 60 1000", "table m\t60 1000"},
		{"table m", "Table m"},
		{"table m", "tables m"},
		{"table m", "m"},
		{"table m", "table"},
		{"table m", "table "},
		{"table m", "table M"},
		{"table m", "table angle"},
		{"table m", "table ninechars"},
		{"m 60", "m 0"},
		{"m 60", "m 61"},
		{"m 60", "m 060"},
		{"m 60", "m +60"},
		{"m 60", "m -60"},
		{"m 60", "m 6_0"},
		{"m 60", "m 60.0"},
		{"m 60", "m 0x3c"},
		{"m 60", "m \u0666"},
		{"m 60", "m x"},
		{"m 60", "m 18446744073709551676"},
		{"60 1000", "60 0"},
		{"60 1000", "60 1001"},
		{"60 1000", "60 01000"},
		{"60 1000", "60 1e3"},
		{"angle 30 0/1\n", "angle 30 0/1"},
		{"angle 30 0/1\n", "angle 30 0/1\n\n"},
		{"angle 30 0/1\n", "angle 30 0/1\r\n"},
		{"angle 30 0/1\n", "angle 30 0/1\nangle 30 0/1\n"},
		{"angle 30 0/1", "Angle 30 0/1"},
		{"angle 30 0/1", "30 0/1"},
		{"angle 30 0/1", "angle 30"},
		{"angle 30 0/1", "angle"},
		{"angle 30 0/1", "angle 30 0"},
		{"angle 30 0/1", "angle 30 0/"},
		{"angle 30 0/1", "angle 30 /1"},
		{"angle 30 0/1", "angle 30 -0/1"},
		{"angle 30 0/1", "angle 30 00/1"},
		{"angle 30 0/1", "angle 30 x/1"},
		{"angle 30 0/1", "angle 30 0/01"},
		{"angle 30 0/1", "angle 30 0/5"},
		{"angle 30 0/1", "angle 30 0/1/1"},
		{"angle 30 0/1", "angle 30 0 / 1"},
		{"angle 30 0/1", "angle 30 0/1 "},
		{"angle 30 0/1", "angle 30 0/1 1"},
		{"angle 30 0/1", "angle 30  0/1"},
		{"angle 30 0/1", "angle  30 0/1"},
		{"angle 30 0/1", "angle 030 0/1"},
		{"angle 30 0/1", "angle 31 0/1"},
		{"angle 30 0/1", "angle 60 0/1"},
		{"angle 30 0/1", "angle 30 -1/1"},
		{"angle 30 0/1", "angle 30 21/1"},
		{"angle 180 240/12\n", "angle 180 240/12"},
		{"angle 180 240/12\n", "angle 180 240/12\n "},
		{"angle 180 240/12\n", "angle 180 240/12\nend\n"},
		{"angle 180 240/12\n", "angle 180 240/12\nangle 210 0/1\n"},
		{"angle 180 240/12", "angle 180 241/12"},
		{"angle 180 240/12\n", "angle 180 240/12\n\x00"},
	} {
		text := strings.Replace(fullText, x[0], x[1], 1)
		if text == fullText {
			t.Fatal(x)
		}
		refused(t, text)
	}
	for _, text := range []string{"", "\n", " ", "table", "table m 60 1000", "table m 60 1000\n", fullText + fullText, "angle 30 0/1\n", "part u\n", "\xff\xfe"} {
		refused(t, text)
	}
}

func TestParseTableChangedByOneByte(t *testing.T) {
	for i := range len(fullText) {
		// A beginning with whole lines, of which one is an entry, is the text of a smaller table.
		if strings.Count(fullText[:i], "\n") < 2 || fullText[i-1] != '\n' {
			refused(t, fullText[:i])
		}
		refused(t, fullText[:i]+" "+fullText[i:])
		for _, b := range []byte{0, '\n', ' ', '/', '-', 'A', 0xff} {
			if fullText[i] != b {
				refused(t, fullText[:i]+string(rune(b))+fullText[i+1:])
			}
		}
	}
}

func TestParseTableLarge(t *testing.T) {
	for _, text := range []string{strings.Repeat("a", api.MaxText+1), fullText + strings.Repeat("\n", api.MaxText), strings.Repeat("angle 30 0/1\n", 1000)} {
		if got, e := flat.ParseTable(text); e != api.ErrLarge || !sameTable(got, api.BendTable{}) {
			t.Error(len(text), got, e)
		}
	}
	refused(t, strings.Repeat("a", api.MaxText))
	refused(t, strings.Repeat("\n", api.MaxText))
	refused(t, strings.Repeat(" ", api.MaxText))
	refused(t, strings.Repeat("/", api.MaxText))
}
