package geom_test

import (
	"cmp"
	"maps"
	"math/rand"
	"slices"
	"testing"

	"sheetmetal/api"
	"sheetmetal/geom"
)

func TestArea(t *testing.T) {
	const m = api.MaxTicks
	for _, x := range []struct {
		l    []api.Rect
		want int
	}{
		{nil, 0},
		{[]api.Rect{}, 0},
		{[]api.Rect{{X: 3, Y: 4, W: 5, H: 6}}, 30},
		{[]api.Rect{{W: 4, H: 2}, {X: 4, Y: 1, W: 2, H: 2}, {X: 1, Y: 1, W: 4, H: 1}}, 12},
		{[]api.Rect{{W: 4, H: 4}, {W: 4, H: 4}, {X: 1, Y: 1, W: 1, H: 1}}, 16},
		{[]api.Rect{{X: -2, Y: -2, W: 4, H: 4}, {X: -1, Y: -9, W: 2, H: 18}}, 44},
		{[]api.Rect{{W: 1, H: 1}, {X: 9, Y: 9, W: 2, H: 3}}, 7},
		{[]api.Rect{{X: -m, Y: -m, W: 2 * m, H: 2 * m}}, 4 * m * m},
	} {
		if n, e := geom.Area(x.l); n != x.want || e != api.OK {
			t.Error(x.l, n, e)
		}
	}
}

func TestSameRegion(t *testing.T) {
	one := []api.Rect{{W: 4, H: 2}}
	for _, x := range []struct {
		a, b []api.Rect
		want bool
	}{
		{nil, nil, true},
		{nil, []api.Rect{}, true},
		{nil, one, false},
		{one, one, true},
		{one, []api.Rect{{W: 1, H: 2}, {X: 1, W: 3, H: 2}}, true},
		{one, []api.Rect{{W: 3, H: 2}, {X: 1, W: 3, H: 2}, {X: 1, W: 1, H: 1}}, true},
		{one, []api.Rect{{W: 4, H: 1}}, false},
		{one, []api.Rect{{W: 2, H: 4}}, false},
		{one, []api.Rect{{X: 1, W: 4, H: 2}}, false},
		{one, []api.Rect{{Y: 1, W: 4, H: 2}}, false},
		{one, []api.Rect{{W: 4, H: 2}, {X: 9, W: 1, H: 1}}, false},
		{[]api.Rect{{W: 3, H: 3}}, []api.Rect{{W: 3, H: 1}, {Y: 2, W: 3, H: 1}, {W: 1, H: 3}, {X: 2, W: 1, H: 3}}, false},
	} {
		if s, e := geom.SameRegion(x.a, x.b); s != x.want || e != api.OK {
			t.Error(x.a, x.b, s, e)
		}
		if s, e := geom.SameRegion(x.b, x.a); s != x.want || e != api.OK {
			t.Error(x.b, x.a, s, e)
		}
	}
}

// across returns the horizontal segment from x1 to x2 at y, up the vertical one from y1 to y2 at x.
func across(y, x1, x2 int) api.Segment { return api.Segment{X1: x1, Y1: y, X2: x2, Y2: y} }
func up(x, y1, y2 int) api.Segment     { return api.Segment{X1: x, Y1: y1, X2: x, Y2: y2} }

func TestOutline(t *testing.T) {
	const m = api.MaxTicks
	for _, x := range []struct {
		name string
		l    []api.Rect
		want []api.Segment
	}{
		{"nothing", nil, nil},
		{"one", []api.Rect{{X: 1, Y: 2, W: 3, H: 4}}, []api.Segment{across(2, 1, 4), across(6, 1, 4), up(1, 2, 6), up(4, 2, 6)}},
		{"the largest", []api.Rect{{X: -m, Y: -m, W: 2 * m, H: 2 * m}}, []api.Segment{across(-m, -m, m), across(m, -m, m), up(-m, -m, m), up(m, -m, m)}},
		{"the example", []api.Rect{{W: 2, H: 1}, {Y: 1, W: 1, H: 1}}, []api.Segment{across(0, 0, 2), across(1, 1, 2), across(2, 0, 1), up(0, 0, 2), up(1, 1, 2), up(2, 0, 1)}},
		{"twice", []api.Rect{{W: 2, H: 2}, {W: 2, H: 2}, {W: 1, H: 1}}, []api.Segment{across(0, 0, 2), across(2, 0, 2), up(0, 0, 2), up(2, 0, 2)}},
		{"side by side", []api.Rect{{W: 1, H: 1}, {X: 1, W: 1, H: 1}, {X: 2, W: 1, H: 1}}, []api.Segment{across(0, 0, 3), across(1, 0, 3), up(0, 0, 1), up(3, 0, 1)}},
		{"apart on a line", []api.Rect{{X: 5, W: 1, H: 1}, {W: 1, H: 1}}, []api.Segment{across(0, 0, 1), across(0, 5, 6), across(1, 0, 1), across(1, 5, 6), up(0, 0, 1), up(1, 0, 1), up(5, 0, 1), up(6, 0, 1)}},
		{"corner at corner, up", []api.Rect{{W: 1, H: 1}, {X: 1, Y: 1, W: 1, H: 1}},
			[]api.Segment{across(0, 0, 1), across(1, 0, 1), across(1, 1, 2), across(2, 1, 2), up(0, 0, 1), up(1, 0, 1), up(1, 1, 2), up(2, 1, 2)}},
		{"corner at corner, down", []api.Rect{{X: 1, W: 1, H: 1}, {Y: 1, W: 1, H: 1}},
			[]api.Segment{across(0, 1, 2), across(1, 0, 1), across(1, 1, 2), across(2, 0, 1), up(0, 1, 2), up(1, 0, 1), up(1, 1, 2), up(2, 0, 1)}},
		{"a hole", []api.Rect{{W: 3, H: 1}, {Y: 2, W: 3, H: 1}, {W: 1, H: 3}, {X: 2, W: 1, H: 3}},
			[]api.Segment{across(0, 0, 3), across(1, 1, 2), across(2, 1, 2), across(3, 0, 3), up(0, 0, 3), up(1, 1, 2), up(2, 1, 2), up(3, 0, 3)}},
		{"a cross", []api.Rect{{X: -3, Y: -1, W: 6, H: 2}, {X: -1, Y: -3, W: 2, H: 6}},
			[]api.Segment{across(-3, -1, 1), across(-1, -3, -1), across(-1, 1, 3), across(1, -3, -1), across(1, 1, 3), across(3, -1, 1),
				up(-3, -1, 1), up(-1, -3, -1), up(-1, 1, 3), up(1, -3, -1), up(1, 1, 3), up(3, -1, 1)}},
		{"a line of another one ends beside", []api.Rect{{W: 2, H: 2}, {X: 2, Y: 1, W: 1, H: 3}},
			[]api.Segment{across(0, 0, 2), across(1, 2, 3), across(2, 0, 2), across(4, 2, 3), up(0, 0, 2), up(2, 0, 1), up(2, 2, 4), up(3, 1, 4)}},
	} {
		if l, e := geom.Outline(x.l); e != api.OK || !slices.Equal(l, x.want) {
			t.Error(x.name, l, e)
		}
	}
}

// border returns the outline of cells from -size to size: each line is gone along in steps of 1, and a segment ends where the side of the interior changes.
func border(set map[api.Spot]bool, size int) []api.Segment {
	var l []api.Segment
	trace := func(pair func(n int) (bool, bool), segment func(from, to int) api.Segment) {
		for n := -size; n < size; {
			low, high := pair(n)
			from := n
			for n++; n < size; n++ {
				if a, b := pair(n); a != low || b != high {
					break
				}
			}
			if low != high {
				l = append(l, segment(from, n))
			}
		}
	}
	for y := -size; y <= size; y++ {
		trace(func(x int) (bool, bool) { return set[api.Spot{X: x, Y: y - 1}], set[api.Spot{X: x, Y: y}] }, func(from, to int) api.Segment { return across(y, from, to) })
	}
	for x := -size; x <= size; x++ {
		trace(func(y int) (bool, bool) { return set[api.Spot{X: x - 1, Y: y}], set[api.Spot{X: x, Y: y}] }, func(from, to int) api.Segment { return up(x, from, to) })
	}
	return l
}

func TestRandomRegions(t *testing.T) {
	r := rand.New(rand.NewSource(6))
	const size = 6
	list := func() []api.Rect {
		l := make([]api.Rect, r.Intn(7))
		for i := range l {
			x, y := r.Intn(2*size)-size, r.Intn(2*size)-size
			l[i] = api.Rect{X: x, Y: y, W: 1 + r.Intn(min(size-x, 5)), H: 1 + r.Intn(min(size-y, 5))}
		}
		return l
	}
	for range 1500 {
		a := list()
		kept := slices.Clone(a)
		set := cells(a...)
		if n, e := geom.Area(a); n != len(set) || e != api.OK {
			t.Error("Area", a, n, e)
		}
		if l, e := geom.Outline(a); e != api.OK || !slices.Equal(l, border(set, size)) {
			t.Error("Outline", a, l, e)
		}
		if !slices.Equal(a, kept) {
			t.Error("an argument has changed", kept, a)
		}
	}
}

// split returns rectangles with the region of l: the cells, joined along the columns.
func split(l []api.Rect) []api.Rect {
	var parts []api.Rect
	set := cells(l...)
	order := func(a, b api.Spot) int { return cmp.Or(cmp.Compare(a.X, b.X), cmp.Compare(a.Y, b.Y)) }
	for _, s := range slices.SortedFunc(maps.Keys(set), order) {
		if !set[api.Spot{X: s.X, Y: s.Y - 1}] {
			h := 1
			for set[api.Spot{X: s.X, Y: s.Y + h}] {
				h++
			}
			parts = append(parts, api.Rect{X: s.X, Y: s.Y, W: 1, H: h})
		}
	}
	return parts
}

// TestSameOutline compares regions, other lists of them and regions that differ a little: two lists have the same outline if and only if they have the same region.
func TestSameOutline(t *testing.T) {
	r := rand.New(rand.NewSource(7))
	for range 800 {
		a := []api.Rect{randomRect(r, 3), randomRect(r, 3)}
		for _, b := range [][]api.Rect{split(a), {a[1], a[0]}, {a[0]}, {randomRect(r, 3), a[1]}} {
			want := maps.Equal(cells(a...), cells(b...))
			if s, e := geom.SameRegion(a, b); s != want || e != api.OK {
				t.Error(a, b, s, e)
			}
			first, _ := geom.Outline(a)
			second, _ := geom.Outline(b)
			if slices.Equal(first, second) != want {
				t.Error("Outline", a, b)
			}
		}
	}
}

func TestMaxRects(t *testing.T) {
	// A lattice of as many bars as a list may have, 24 in each direction, has 23 times 23 holes.
	const n = api.MaxRects / 2
	var l []api.Rect
	for i := range n {
		l = append(l, api.Rect{X: 2 * i, W: 1, H: 2*n - 1}, api.Rect{Y: 2 * i, W: 2*n - 1, H: 1})
	}
	if s, e := geom.Outline(l); e != api.OK || len(s) != 4+4*(n-1)*(n-1) || !slices.Equal(s, border(cells(l...), 2*n)) {
		t.Error(len(s), e)
	}
	if a, e := geom.Area(l); a != (2*n-1)*(2*n-1)-(n-1)*(n-1) || e != api.OK {
		t.Error(a, e)
	}
	if s, e := geom.SameRegion(l, slices.Concat(l[1:], l[:1])); !s || e != api.OK {
		t.Error(s, e)
	}
}

func TestRegionErrors(t *testing.T) {
	good := slices.Repeat([]api.Rect{{W: 1, H: 1}}, api.MaxRects)
	many := append(slices.Clone(good), good[0])
	for _, bad := range invalid() {
		for _, x := range []struct {
			a, b []api.Rect
			want api.Errno
		}{
			{good, good, api.OK},
			{good, many, api.ErrLarge},
			{many, good, api.ErrLarge},
			{[]api.Rect{bad}, good, api.ErrArg},
			{good, []api.Rect{good[0], bad}, api.ErrArg},
			{[]api.Rect{bad}, many, api.ErrLarge},
			{many, []api.Rect{bad}, api.ErrLarge},
			{append(slices.Clone(good), bad), nil, api.ErrLarge},
			{append(slices.Clone(good[1:]), bad), nil, api.ErrArg},
		} {
			if s, e := geom.SameRegion(x.a, x.b); e != x.want || s != (e == api.OK) {
				t.Error("SameRegion", len(x.a), len(x.b), bad, s, e)
			}
		}
		for _, x := range []struct {
			l    []api.Rect
			want api.Errno
		}{
			{many, api.ErrLarge},
			{append(slices.Clone(good), bad), api.ErrLarge},
			{append([]api.Rect{bad}, good...), api.ErrLarge},
			{append(slices.Clone(good[1:]), bad), api.ErrArg},
			{[]api.Rect{bad}, api.ErrArg},
		} {
			if n, e := geom.Area(x.l); n != 0 || e != x.want {
				t.Error("Area", len(x.l), bad, n, e)
			}
			if s, e := geom.Outline(x.l); len(s) != 0 || e != x.want {
				t.Error("Outline", len(x.l), bad, s, e)
			}
		}
	}
	if n, e := geom.Area(good); n != 1 || e != api.OK {
		t.Error(n, e)
	}
	if s, e := geom.Outline(good); len(s) != 4 || e != api.OK {
		t.Error(s, e)
	}
}
