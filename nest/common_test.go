package nest_test

import (
	"math/rand"
	"slices"
	"testing"

	"sheetmetal/api"
	"sheetmetal/geom"
	"sheetmetal/nest"
)

// across returns the horizontal segment from x1 to x2 at y, up the vertical one from y1 to y2 at x.
func across(y, x1, x2 int) api.Segment { return api.Segment{X1: x1, Y1: y, X2: x2, Y2: y} }
func up(x, y1, y2 int) api.Segment     { return api.Segment{X1: x, Y1: y1, X2: x, Y2: y2} }

func TestCommon(t *testing.T) {
	one := []api.Rect{rect(0, 0, 4, 4)}
	ring := []api.Rect{rect(-2, -2, 8, 2), rect(-2, 4, 8, 2), rect(-2, 0, 2, 4), rect(4, 0, 2, 4)}
	around := []api.Segment{across(0, 0, 4), across(4, 0, 4), up(0, 0, 4), up(4, 0, 4)}
	for _, x := range []struct {
		name string
		a, b []api.Rect
		want []api.Segment
	}{
		{"nothing", nil, nil, nil},
		{"nothing beside it", one, nil, nil},
		{"on the right", one, []api.Rect{rect(4, 1, 2, 9)}, []api.Segment{up(4, 1, 4)}},
		{"on the left", one, []api.Rect{rect(-2, -5, 2, 20)}, []api.Segment{up(0, 0, 4)}},
		{"above", one, []api.Rect{rect(1, 4, 2, 9)}, []api.Segment{across(4, 1, 3)}},
		{"below", one, []api.Rect{rect(-3, -1, 4, 1)}, []api.Segment{across(0, 0, 1)}},
		{"a whole side", one, []api.Rect{rect(4, 0, 4, 4)}, []api.Segment{up(4, 0, 4)}},
		{"corner at corner", one, []api.Rect{rect(4, 4, 4, 4)}, nil},
		{"corner at corner, below", one, []api.Rect{rect(4, -4, 4, 4)}, nil},
		{"apart", one, []api.Rect{rect(5, 0, 4, 4)}, nil},
		{"apart on a line", one, []api.Rect{rect(9, 0, 4, 4), rect(0, 9, 4, 4)}, nil},
		{"on all sides", one, ring, around},
		{"a tee", one, []api.Rect{rect(4, 0, 2, 2), rect(4, 2, 9, 2)}, []api.Segment{up(4, 0, 4)}},
		{"two with a gap between", one, []api.Rect{rect(4, 3, 2, 1), rect(4, 0, 2, 2)}, []api.Segment{up(4, 0, 2), up(4, 3, 4)}},
		{"two that overlap", one, []api.Rect{rect(4, 0, 2, 3), rect(4, 1, 2, 3), rect(4, 1, 1, 1)}, []api.Segment{up(4, 0, 4)}},
		{"a line inside of a region is no border", []api.Rect{rect(0, 0, 4, 4), rect(4, 0, 4, 4)}, []api.Rect{rect(8, 0, 1, 1)}, []api.Segment{up(8, 0, 1)}},
		{"on two sides of a line", []api.Rect{rect(0, 0, 4, 4), rect(4, 4, 4, 4)}, []api.Rect{rect(4, 0, 4, 4), rect(0, 4, 4, 4)},
			[]api.Segment{across(4, 0, 4), across(4, 4, 8), up(4, 0, 4), up(4, 4, 8)}},
		{"a corner of two sides", []api.Rect{rect(0, 0, 6, 2), rect(0, 2, 2, 4)}, []api.Rect{rect(2, 2, 4, 4)}, []api.Segment{across(2, 2, 6), up(2, 2, 6)}},
		{"the largest", []api.Rect{rect(-top, -top, top, 2*top)}, []api.Rect{rect(0, -top, top, 2*top)}, []api.Segment{up(0, -top, top)}},
	} {
		for _, l := range [][2][]api.Rect{{x.a, x.b}, {x.b, x.a}} {
			if got, e := nest.Common(l[0], l[1]); e != api.OK || !slices.Equal(got, x.want) {
				t.Error(x.name, l, got, e)
			}
		}
	}
}

// commonByCells returns the lines of Common: each line is gone along in steps of 1, and a segment ends where a or b changes its side.
func commonByCells(a, b []api.Rect, size int) []api.Segment {
	has := func(l []api.Rect, x, y int) bool {
		return slices.ContainsFunc(l, func(r api.Rect) bool { return geom.Overlap(r, rect(x, y, 1, 1)) })
	}
	var l []api.Segment
	trace := func(cells func(n int) (before, after api.Spot), segment func(from, to int) api.Segment) {
		sideOf := func(n int) int {
			p, q := cells(n)
			switch {
			case has(a, p.X, p.Y) && has(b, q.X, q.Y):
				return -1
			case has(b, p.X, p.Y) && has(a, q.X, q.Y):
				return 1
			}
			return 0
		}
		for n := 0; n < size; {
			from, side := n, sideOf(n)
			for n++; n < size && sideOf(n) == side; n++ {
			}
			if side != 0 {
				l = append(l, segment(from, n))
			}
		}
	}
	for y := range size + 1 {
		trace(func(x int) (api.Spot, api.Spot) { return api.Spot{X: x, Y: y - 1}, api.Spot{X: x, Y: y} }, func(from, to int) api.Segment { return across(y, from, to) })
	}
	for x := range size + 1 {
		trace(func(y int) (api.Spot, api.Spot) { return api.Spot{X: x - 1, Y: y}, api.Spot{X: x, Y: y} }, func(from, to int) api.Segment { return up(x, from, to) })
	}
	return l
}

func TestCommonByCells(t *testing.T) {
	r := rand.New(rand.NewSource(70))
	const size = 7
	lines, over := 0, 0
	for range 3000 {
		var a, b []api.Rect
		for i := range r.Intn(10) {
			x, y := r.Intn(size), r.Intn(size)
			next := rect(x, y, 1+r.Intn(min(3, size-x)), 1+r.Intn(min(3, size-y)))
			if i%2 == 0 {
				a = append(a, next)
			} else if r.Intn(9) == 0 || !slices.ContainsFunc(a, func(other api.Rect) bool { return geom.Overlap(other, next) }) {
				b = append(b, next)
			}
		}
		want, wantError := commonByCells(a, b, size), api.OK
		for _, s := range a {
			for _, other := range b {
				if geom.Overlap(s, other) {
					want, wantError = nil, api.ErrOverlap
				}
			}
		}
		got, e := nest.Common(a, b)
		if e != wantError || !slices.Equal(got, want) {
			t.Error(a, b, got, want, e)
		}
		lines += len(got)
		if e != api.OK {
			over++
		}
	}
	if lines < 1000 || over < 200 {
		t.Error("too few", lines, over)
	}
}

func TestErrorsOfCommon(t *testing.T) {
	good, bad, over := []api.Rect{rect(0, 0, 5, 5)}, []api.Rect{rect(9, 9, 1, 1), rect(0, 0, 0, 5)}, []api.Rect{rect(9, 9, 1, 1), rect(4, 4, 5, 5)}
	full := slices.Repeat(good, api.MaxRects)
	many := slices.Repeat(good, api.MaxRects+1)
	for _, x := range []struct {
		a, b []api.Rect
		want api.Errno
	}{
		{full, []api.Rect{rect(5, 0, 1, 1)}, api.OK},
		{good, over, api.ErrOverlap},
		{full, over, api.ErrOverlap},
		{good, good, api.ErrOverlap},
		{good, many, api.ErrLarge},
		{bad, many, api.ErrLarge},
		{good, bad, api.ErrArg},
		{append(slices.Clone(good), bad...), append(slices.Clone(good), over...), api.ErrArg},
		{append(slices.Clone(bad), good...), over, api.ErrArg},
		{make([]api.Rect, 100000), nil, api.ErrLarge},
	} {
		for _, l := range [][2][]api.Rect{{x.a, x.b}, {x.b, x.a}} {
			if got, e := nest.Common(l[0], l[1]); e != x.want || (e == api.OK) != (len(got) > 0) {
				t.Error(len(x.a), len(x.b), got, e)
			}
		}
	}
	for _, r := range invalid() {
		for _, l := range [][2][]api.Rect{{{r}, good}, {good, {r}}, {append(slices.Clone(good), r), good}} {
			if got, e := nest.Common(l[0], l[1]); e != api.ErrArg || len(got) != 0 {
				t.Error(l, got, e)
			}
		}
	}
}
