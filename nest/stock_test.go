package nest_test

import (
	"math/rand"
	"reflect"
	"slices"
	"testing"

	"sheetmetal/api"
	"sheetmetal/geom"
	"sheetmetal/nest"
)

func TestFree(t *testing.T) {
	four := slices.Repeat([]api.Rect{rect(0, 0, 50, 1)}, 3)
	both := some()
	both.Used = append(both.Used, rect(5, 5, 10, 10))
	full := sheet(100, 100)
	for i := range api.MaxRects {
		full.Used = append(full.Used, rect(2*i, 50, 1, 2))
	}
	full.Clamps = append(four, rect(0, 51, 100, 1))
	for _, x := range []struct {
		name string
		s    api.Sheet
		want int
	}{
		{"empty", sheet(7, 9), 63},
		{"the largest", sheet(top, top), top * top},
		{"a clamp and a used rectangle", some(), 8000 - 100 - 800},
		{"overlapping", both, 8000 - 100 - 800 - 75},
		{"used up", withUsed(sheet(7, 9), rect(0, 0, 7, 9), rect(0, 0, 7, 1)), 0},
		{"all but one", withUsed(sheet(7, 9), rect(0, 0, 7, 8), rect(1, 0, 6, 9)), 1},
		{"52 rectangles", full, 10000 - 50 - 48 - 100},
	} {
		if n, e := nest.Free(x.s); n != x.want || e != api.OK {
			t.Error(x.name, n, e)
		}
	}
	for _, f := range sheetFaults() {
		s := some()
		f.make(&s)
		if n, e := nest.Free(s); n != 0 || e != f.want {
			t.Error(f.name, n, e)
		}
	}
}

// TestFreeByCount holds Free against a count of squares of size 1.
func TestFreeByCount(t *testing.T) {
	r := rand.New(rand.NewSource(68))
	for range 1500 {
		s := randomSheet(r)
		want := s.Width * s.Height
		for x := range s.Width {
			for y := range s.Height {
				if slices.ContainsFunc(slices.Concat(s.Clamps, s.Used), func(b api.Rect) bool { return geom.Overlap(b, rect(x, y, 1, 1)) }) {
					want--
				}
			}
		}
		if n, e := nest.Free(s); n != want || e != api.OK {
			t.Error(s, n, want, e)
		}
	}
}

func TestExceeds(t *testing.T) {
	brass := sheet(10, 10)
	brass.Material = "brass"
	angle := piece(rect(0, 0, 10, 5), rect(0, 5, 5, 5)) // 75
	holed := piece(rect(0, 0, 10, 10))
	holed.Cuts = []api.Rect{rect(1, 1, 8, 8)}
	for _, x := range []struct {
		name   string
		sheets []api.Sheet
		pieces []api.Piece
		want   bool
	}{
		{"nothing", nil, nil, false},
		{"no sheet", nil, []api.Piece{piece(rect(0, 0, 1, 1))}, true},
		{"no piece", []api.Sheet{sheet(1, 1)}, nil, false},
		{"as much", []api.Sheet{sheet(10, 10)}, []api.Piece{piece(rect(0, 0, 10, 10))}, false},
		{"as much, but of another shape", []api.Sheet{sheet(10, 10)}, []api.Piece{piece(rect(0, 0, 100, 1))}, false},
		{"as much, but of another material", []api.Sheet{brass}, []api.Piece{piece(rect(0, 0, 10, 10))}, false},
		{"one more", []api.Sheet{sheet(10, 10)}, []api.Piece{piece(rect(0, 0, 10, 10)), piece(rect(0, 0, 1, 1))}, true},
		{"one more in one piece", []api.Sheet{sheet(10, 10)}, []api.Piece{piece(rect(0, 0, 101, 1))}, true},
		{"a hole is not free", []api.Sheet{sheet(10, 10)}, []api.Piece{holed, piece(rect(0, 0, 1, 1))}, true},
		{"an angle has what its rectangles have", []api.Sheet{sheet(10, 10)}, []api.Piece{angle, piece(rect(0, 0, 5, 5))}, false},
		{"an angle and more", []api.Sheet{sheet(10, 10)}, []api.Piece{angle, piece(rect(0, 0, 13, 2))}, true},
		{"two sheets", []api.Sheet{sheet(10, 10), brass}, []api.Piece{angle, angle, piece(rect(0, 0, 25, 2))}, false},
		{"two sheets, and one more", []api.Sheet{sheet(10, 10), brass}, []api.Piece{angle, angle, piece(rect(0, 0, 17, 3))}, true},
		{"a remnant", []api.Sheet{withUsed(sheet(10, 10), rect(0, 0, 5, 5), rect(4, 0, 2, 5))}, []api.Piece{piece(rect(0, 0, 70, 1))}, false},
		{"a remnant, and one more", []api.Sheet{withUsed(sheet(10, 10), rect(0, 0, 5, 5), rect(4, 0, 2, 5))}, []api.Piece{piece(rect(0, 0, 71, 1))}, true},
		{"the largest", slices.Repeat([]api.Sheet{sheet(top, top)}, 4), slices.Repeat([]api.Piece{piece(rect(0, 0, top, top))}, 4), false},
		{"more than the largest", slices.Repeat([]api.Sheet{sheet(top, top)}, 4), append(slices.Repeat([]api.Piece{piece(rect(0, 0, top, top))}, 4), piece(rect(0, 0, 1, 1))), true},
	} {
		if got, e := nest.Exceeds(x.sheets, x.pieces); got != x.want || e != api.OK {
			t.Error(x.name, got, e)
		}
	}
}

func TestRemnant(t *testing.T) {
	for _, x := range []struct {
		s api.Sheet
		l []api.Rect
	}{
		{sheet(100, 100), nil},
		{some(), nil},
		{some(), []api.Rect{rect(10, 0, 80, 80)}},
		{some(), []api.Rect{rect(0, 10, 10, 10), rect(10, 0, 10, 10), rect(89, 79, 1, 1)}},
		{sheet(100, 100), []api.Rect{rect(50, 50, 50, 50), rect(0, 0, 50, 50)}},
		{sheet(1, 1), []api.Rect{rect(0, 0, 1, 1)}},
	} {
		want := x.s
		want.Used = slices.Concat(x.s.Used, x.l)
		got, e := nest.Remnant(x.s, x.l)
		if e != api.OK || !sameSheet(got, want) {
			t.Error(x.s, x.l, got, e)
		}
		before, _ := nest.Free(x.s)
		after, e := nest.Free(got)
		area, _ := geom.Area(x.l)
		if after != before-area || e != api.OK {
			t.Error(x.s, x.l, before, after, e)
		}
	}
	var l []api.Rect
	for i := range api.MaxRects {
		l = append(l, rect(2*i, 0, 2, 1))
	}
	if got, e := nest.Remnant(withUsed(sheet(100, 100), l[:20]...), l[20:]); e != api.OK || !slices.Equal(got.Used, l) {
		t.Error(got, e)
	}
}

func sameSheet(a, b api.Sheet) bool {
	return a.Name == b.Name && a.Material == b.Material && a.Gauge == b.Gauge && a.Grain == b.Grain && a.Width == b.Width && a.Height == b.Height &&
		slices.Equal(a.Clamps, b.Clamps) && slices.Equal(a.Used, b.Used)
}

// use is the argument of Remnant.
type use struct {
	s api.Sheet
	l []api.Rect
}

func TestErrorsOfRemnant(t *testing.T) {
	faults := []fault[use]{
		{"48 more", 1, api.ErrLarge, func(x *use) { x.l = append(x.l, slices.Repeat([]api.Rect{rect(50, 50, 1, 1)}, api.MaxRects)...) }},
		{"46 more", 1, api.ErrLarge, func(x *use) { x.l = append(x.l, slices.Repeat([]api.Rect{rect(50, 50, 1, 1)}, 46)...) }},
		{"on the clamp", 4, api.ErrOverlap, func(x *use) { x.l = append(x.l, rect(9, 9, 2, 2)) }},
		{"on what is used", 4, api.ErrOverlap, func(x *use) { x.l = append(x.l, rect(89, 70, 2, 2)) }},
		{"on an earlier one", 4, api.ErrOverlap, func(x *use) { x.l = append(x.l, rect(29, 29, 2, 2)) }},
		{"on a later one", 4, api.ErrOverlap, func(x *use) { x.l = slices.Insert(x.l, 0, rect(29, 29, 2, 2)) }},
		{"one twice", 4, api.ErrOverlap, func(x *use) { x.l = append(x.l, x.l[0]) }},
		{"on the clamp, at the beginning", 4, api.ErrOverlap, func(x *use) { x.l = slices.Insert(x.l, 0, rect(9, 9, 2, 2)) }},
	}
	for _, r := range invalid() {
		faults = append(faults, fault[use]{"not valid", 2, api.ErrArg, func(x *use) { x.l = append(x.l, r) }})
	}
	for _, r := range []api.Rect{rect(-1, 20, 2, 2), rect(20, -1, 2, 2), rect(20, 79, 2, 2), rect(99, 20, 2, 2), rect(300, 300, 1, 1)} {
		faults = append(faults, fault[use]{"outside", 3, api.ErrFit, func(x *use) { x.l = append(x.l, r) }},
			fault[use]{"outside, at the beginning", 3, api.ErrFit, func(x *use) { x.l = slices.Insert(x.l, 0, r) }})
	}
	for _, f := range sheetFaults() {
		if f.want != api.ErrLarge { // two faults may fill a list together
			faults = append(faults, fault[use]{f.name, -9 + f.rank, f.want, func(x *use) { f.make(&x.s) }})
		}
	}
	valid := func() use { return use{some(), []api.Rect{rect(20, 20, 10, 10), rect(30, 20, 10, 10)}} }
	expectFaults(t, valid, faults, func(x use) api.Errno {
		got, e := nest.Remnant(x.s, x.l)
		if e != api.OK && !reflect.DeepEqual(got, api.Sheet{}) {
			t.Error("not a zero value", x, got)
		}
		return e
	})
	many := some()
	many.Clamps = make([]api.Rect, 5)
	if _, e := nest.Remnant(many, nil); e != api.ErrLarge {
		t.Error(e)
	}
	if _, e := nest.Remnant(api.Sheet{}, make([]api.Rect, 100000)); e != api.ErrName {
		t.Error(e)
	}
	if _, e := nest.Remnant(some(), make([]api.Rect, 100000)); e != api.ErrLarge {
		t.Error(e)
	}
}
