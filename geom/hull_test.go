package geom_test

import (
	"math/big"
	"math/rand"
	"slices"
	"testing"

	"sheetmetal/api"
	"sheetmetal/geom"
)

// orient is geom.Orient of points within the limits.
func orient(t *testing.T, a, b, c api.Point) int {
	t.Helper()
	s, e := geom.Orient(a, b, c)
	if e != api.OK {
		t.Fatal(a, b, c, e)
	}
	return s
}

// hull is geom.Hull of a valid list.
func hull(t *testing.T, l []api.Point) []api.Point {
	t.Helper()
	h, e := geom.Hull(l)
	if e != api.OK {
		t.Fatal(l, e)
	}
	return h
}

// before reports whether a comes before b by X and then Y.
func before(t *testing.T, a, b api.Point) bool {
	t.Helper()
	x, e := geom.CompareRoot(a.X, b.X)
	if e != api.OK {
		t.Fatal(a, b, e)
	}
	if x != 0 {
		return x < 0
	}
	y, e := geom.CompareRoot(a.Y, b.Y)
	if e != api.OK {
		t.Fatal(a, b, e)
	}
	return y < 0
}

// randomSpots returns up to `most` spots with coordinates from 0 to size.
func randomSpots(r *rand.Rand, most, size int) []api.Spot {
	l := make([]api.Spot, 1+r.Intn(most))
	for i := range l {
		l[i] = api.Spot{X: r.Intn(size + 1), Y: r.Intn(size + 1)}
	}
	return l
}

func TestHull(t *testing.T) {
	for _, x := range []struct{ l, want []api.Point }{
		{[]api.Point{at(3, 4)}, []api.Point{at(3, 4)}},
		{[]api.Point{at(3, 4), at(3, 4), at(3, 4)}, []api.Point{at(3, 4)}},
		{[]api.Point{at(3, 3), at(1, 1), at(2, 2), at(1, 1)}, []api.Point{at(1, 1), at(3, 3)}},
		{[]api.Point{at(2, 9), at(2, -3), at(2, 0)}, []api.Point{at(2, -3), at(2, 9)}},
		{[]api.Point{at(0, 2), at(2, 0), at(1, 1)}, []api.Point{at(0, 2), at(2, 0)}},
		{[]api.Point{at(4, 4), at(0, 0), at(4, 0), at(2, 0), at(2, 2), at(0, 4), at(0, 0), at(0, 1), at(4, 3)}, []api.Point{at(0, 0), at(4, 0), at(4, 4), at(0, 4)}},
		{[]api.Point{at(0, 5), at(5, 0), at(5, 10), at(10, 5), at(5, 5)}, []api.Point{at(0, 5), at(5, 0), at(10, 5), at(5, 10)}},
		// The square root of 3 is above 1 and below 2.
		{[]api.Point{numbers(0, 1, 0, 0), numbers(2, 0, 0, 0), numbers(1, 0, 0, 0), numbers(0, 1, 0, 1)}, []api.Point{numbers(1, 0, 0, 0), numbers(2, 0, 0, 0), numbers(0, 1, 0, 1)}},
		{[]api.Point{numbers(0, 1, 2, 0), numbers(0, 1, 0, 1), numbers(0, 1, 1, 0)}, []api.Point{numbers(0, 1, 1, 0), numbers(0, 1, 2, 0)}},
	} {
		l := slices.Clone(x.l)
		if h, e := geom.Hull(l); e != api.OK || !slices.Equal(h, x.want) {
			t.Error(x.l, h, e)
		}
		if !slices.Equal(l, x.l) {
			t.Error("the argument has changed", x.l, l)
		}
	}
}

// checkHull checks that h has what the document says of the hull of l.
func checkHull(t *testing.T, l, h []api.Point) {
	t.Helper()
	for i, p := range h {
		if !slices.Contains(l, p) || i > 0 && !before(t, h[0], p) {
			t.Error("a corner is not of the list, or not after the first one", l, h)
		}
		next, after := h[(i+1)%len(h)], h[(i+2)%len(h)]
		if len(h) > 2 && orient(t, p, next, after) != 1 {
			t.Error("no counterclockwise turn", l, h)
		}
		for _, x := range l {
			if orient(t, p, next, x) < 0 || len(h) == 2 && orient(t, p, next, x) != 0 || len(h) == 1 && x != p {
				t.Error("a point outside", l, h, x)
			}
			if len(h) == 2 && (before(t, x, h[0]) || before(t, h[1], x)) {
				t.Error("a point beyond the ends", l, h, x)
			}
		}
	}
}

func TestHullOfRandomPoints(t *testing.T) {
	r := rand.New(rand.NewSource(2))
	for n := range 1500 {
		l := turned(t, randomSpots(r, api.MaxPoints, 1+r.Intn(6)), n%12)
		h := hull(t, l)
		checkHull(t, l, h)
		r.Shuffle(len(l), func(i, j int) { l[i], l[j] = l[j], l[i] })
		if !slices.Equal(hull(t, l), h) {
			t.Error("another order of the points, another hull", l)
		}
	}
}

func TestHullErrors(t *testing.T) {
	const m = api.MaxFactor
	large := numbers(0, 0, 0, m+1)
	for _, x := range []struct {
		l    []api.Point
		want api.Errno
	}{
		{nil, api.ErrArg},
		{[]api.Point{}, api.ErrArg},
		{make([]api.Point, api.MaxPoints), api.OK},
		{make([]api.Point, api.MaxPoints+1), api.ErrArg},
		{slices.Repeat([]api.Point{large}, api.MaxPoints+1), api.ErrArg},
		{slices.Repeat([]api.Point{large}, api.MaxPoints), api.ErrLarge},
		{[]api.Point{at(0, 0), numbers(m+1, 0, 0, 0)}, api.ErrLarge},
		{[]api.Point{at(0, 0), numbers(0, -m-1, 0, 0)}, api.ErrLarge},
		{[]api.Point{at(0, 0), numbers(0, 0, -m-1, 0)}, api.ErrLarge},
		{[]api.Point{numbers(0, 0, 0, wild[0]), at(0, 0)}, api.ErrLarge},
		{[]api.Point{numbers(0, wild[1], 0, 0), at(0, 0)}, api.ErrLarge},
		{[]api.Point{numbers(m, -m, -m, m)}, api.OK},
	} {
		if h, e := geom.Hull(x.l); e != x.want || e != api.OK && len(h) != 0 {
			t.Error(x.l, h, e)
		}
	}
	limit := []api.Point{numbers(m, m, m, m), numbers(-m, -m, m, m), numbers(m, m, -m, -m), numbers(-m, -m, -m, -m), at(0, 0)}
	if h := hull(t, limit); !slices.Equal(h, []api.Point{limit[3], limit[2], limit[0], limit[1]}) {
		t.Error(h)
	}
}

func TestMeets(t *testing.T) {
	square := []api.Point{at(0, 0), at(4, 0), at(4, 4), at(0, 4)}
	for _, x := range []struct {
		name string
		a    []api.Point
		want bool
	}{
		{"a point inside", []api.Point{at(2, 2)}, true},
		{"a point on a side", []api.Point{at(0, 2)}, false},
		{"a corner", []api.Point{at(4, 4)}, false},
		{"a point outside", []api.Point{at(5, 2)}, false},
		{"a line across", []api.Point{at(-1, 2), at(5, 2)}, true},
		{"a line on a side", []api.Point{at(0, -3), at(0, 9)}, false},
		{"a line that touches a corner", []api.Point{at(-1, 3), at(1, 5)}, false},
		{"a line that cuts a corner", []api.Point{at(-1, 2), at(2, 5)}, true},
		{"a line that passes a corner", []api.Point{at(-1, 4), at(1, 6)}, false},
		{"a line that ends in front", []api.Point{at(-5, 2), at(-1, 2)}, false},
		{"a line that ends on a side", []api.Point{at(-5, 2), at(0, 2)}, false},
		{"a line that ends inside", []api.Point{at(-5, 2), at(1, 2)}, true},
		{"a line from side to side", []api.Point{at(0, 2), at(2, 0)}, true},
		{"a diagonal", []api.Point{at(0, 0), at(4, 4)}, true},
		{"a triangle at a corner", []api.Point{at(4, 4), at(6, 4), at(5, 6)}, false},
		{"a triangle at a side", []api.Point{at(4, 1), at(6, 1), at(6, 3)}, false},
		{"a corner at a side", []api.Point{at(4, 2), at(6, 1), at(6, 3)}, false},
		{"a larger triangle around", []api.Point{at(-9, -9), at(19, -9), at(5, 19)}, true},
		{"a smaller square within", []api.Point{at(1, 1), at(2, 1), at(2, 2), at(1, 2)}, true},
		{"the square itself", square, true},
		{"the square at its side", []api.Point{at(4, 0), at(8, 0), at(8, 4), at(4, 4)}, false},
		{"a bar across", []api.Point{at(-1, 1), at(9, 1), at(9, 2), at(-1, 2)}, true},
		{"clockwise and with inner points", []api.Point{at(3, 9), at(9, 9), at(9, 3), at(3, 3), at(5, 5)}, true},
		{"a side that faces a corner", []api.Point{at(9, 0), at(0, 9), at(9, 9)}, false},
		{"a side that touches a corner", []api.Point{at(8, 0), at(0, 8), at(9, 9)}, false},
		{"a side that cuts a corner", []api.Point{at(7, 0), at(0, 7), at(9, 9)}, true},
	} {
		if m, e := geom.Meets(x.a, square); m != x.want || e != api.OK {
			t.Error(x.name, m, e)
		}
	}
	// The square root of 3 decides: 2*sqrt(3) is below 3.5, and above 3.4.
	side := []api.Point{numbers(35, 0, 0, 0), numbers(35, 0, 40, 0), numbers(60, 0, 20, 0)}
	if m, e := geom.Meets([]api.Point{numbers(0, 20, 20, 0), numbers(0, 0, 0, 0)}, side); m || e != api.OK {
		t.Error(m, e)
	}
	side[0].X.A, side[1].X.A = 34, 34
	if m, e := geom.Meets([]api.Point{numbers(0, 20, 20, 0), numbers(0, 0, 0, 0)}, side); !m || e != api.OK {
		t.Error(m, e)
	}
}

// cross returns the doubled area of a, b, c.
func cross(a, b, c api.Spot) int64 {
	return int64((b.X-a.X)*(c.Y-a.Y) - (b.Y-a.Y)*(c.X-a.X))
}

// lineMeets reports whether the line from p to q has a point in the interior of a hull: it is clipped by each of the hull's sides.
func lineMeets(p, q api.Spot, h []api.Spot) bool {
	low, high := big.NewRat(0, 1), big.NewRat(1, 1)
	lowOpen, highOpen := false, false
	for i, a := range h {
		b := h[(i+1)%len(h)]
		first, last := cross(a, b, p), cross(a, b, q)
		switch {
		case first <= 0 && last <= 0:
			return false
		case first <= 0:
			if x := big.NewRat(-first, last-first); x.Cmp(low) >= 0 {
				low, lowOpen = x, true
			}
		case last <= 0:
			if x := big.NewRat(first, first-last); x.Cmp(high) <= 0 {
				high, highOpen = x, true
			}
		}
	}
	order := low.Cmp(high)
	return order < 0 || order == 0 && !lowOpen && !highOpen
}

// hasMiddle reports whether the middle of h lies within the hull a.
func hasMiddle(a, h []api.Spot) bool {
	n := len(h)
	var sum api.Spot
	for _, s := range h {
		sum.X += s.X
		sum.Y += s.Y
	}
	for i, p := range a {
		q := a[(i+1)%len(a)]
		if cross(api.Spot{X: n * p.X, Y: n * p.Y}, api.Spot{X: n * q.X, Y: n * q.Y}, sum) < 0 {
			return false
		}
	}
	return len(a) > 2
}

// spotHull returns the corners of the hull of spots as spots.
func spotHull(t *testing.T, l []api.Spot) []api.Spot {
	t.Helper()
	var corners []api.Spot
	for _, p := range hull(t, turned(t, l, 0)) {
		corners = append(corners, api.Spot{X: p.X.A / 2, Y: p.Y.A / 2})
	}
	return corners
}

// meetsByLines is Meets of hulls found by clipping: a side of a passes through the interior of b, or all of it lies in a.
func meetsByLines(a, b []api.Spot) bool {
	for i, p := range a {
		if lineMeets(p, a[(i+1)%len(a)], b) {
			return true
		}
	}
	return hasMiddle(a, b)
}

func TestMeetsOfRandomHulls(t *testing.T) {
	r := rand.New(rand.NewSource(3))
	count := map[bool]int{}
	for n := range 6000 {
		size := 1 + r.Intn(7)
		a, b := randomSpots(r, 5, size), randomSpots(r, 6, size)
		second := spotHull(t, b)
		if len(second) < 3 {
			continue
		}
		want := meetsByLines(spotHull(t, a), second)
		if m, e := geom.Meets(turned(t, a, n%12), turned(t, b, n%12)); m != want || e != api.OK {
			t.Error(a, b, n%12, m, e)
		}
		count[want]++
	}
	if count[true] < 500 || count[false] < 500 {
		t.Error("too few cases of one kind", count)
	}
}

func TestMeetsErrors(t *testing.T) {
	triangle := []api.Point{at(0, 0), at(4, 0), at(0, 4)}
	many := make([]api.Point, api.MaxPoints+1)
	large := []api.Point{at(0, 0), numbers(0, api.MaxFactor+1, 0, 0)}
	line := []api.Point{at(0, 0), at(1, 1), at(3, 3)}
	for _, x := range []struct {
		name string
		a, b []api.Point
		want api.Errno
	}{
		{"no points in a", nil, triangle, api.ErrArg},
		{"no points in b", triangle, nil, api.ErrArg},
		{"too many in a", many, triangle, api.ErrArg},
		{"too many in b", triangle, many, api.ErrArg},
		{"a large, b empty", large, nil, api.ErrArg},
		{"a large, b too many", large, many, api.ErrArg},
		{"a empty, b large", nil, large, api.ErrArg},
		{"a empty, b a line", nil, line, api.ErrArg},
		{"a large", large, triangle, api.ErrLarge},
		{"b large", triangle, large, api.ErrLarge},
		{"a large, b a line", large, line, api.ErrLarge},
		{"a far", []api.Point{numbers(0, 0, wild[1], 0)}, triangle, api.ErrLarge},
		{"b a line", triangle, line, api.ErrShape},
		{"b a point", triangle, []api.Point{at(1, 1), at(1, 1), at(1, 1)}, api.ErrShape},
		{"a and b lines", line, line, api.ErrShape},
	} {
		if m, e := geom.Meets(x.a, x.b); m || e != x.want {
			t.Error(x.name, m, e)
		}
	}
	full := append(make([]api.Point, api.MaxPoints-2), at(4, 0), at(0, 4))
	if m, e := geom.Meets(full, full); !m || e != api.OK {
		t.Error("MaxPoints points", m, e)
	}
}

func TestSweep(t *testing.T) {
	l, e := geom.Sweep([]api.Spot{{}, {X: 10}}, 0, 3)
	want := [][]api.Point{
		{at(0, 0), at(10, 0), numbers(0, 10, 10, 0)},
		{at(0, 0), numbers(0, 10, 10, 0), numbers(10, 0, 0, 10)},
		{at(0, 0), numbers(10, 0, 0, 10), at(0, 10)},
	}
	if e != api.OK || !slices.EqualFunc(l, want, slices.Equal[[]api.Point]) {
		t.Error(l, e)
	}
	l, e = geom.Sweep([]api.Spot{{X: 10, Y: 0}, {X: 20, Y: 0}, {X: 20, Y: 5}, {X: 10, Y: 5}, {X: 15, Y: 2}}, 3, 3)
	want = [][]api.Point{{at(-5, 10), at(0, 10), at(0, 20), at(-5, 20)}}
	if e != api.OK || !slices.EqualFunc(l, want, slices.Equal[[]api.Point]) {
		t.Error(l, e)
	}
	l, e = geom.Sweep([]api.Spot{{X: 1}}, 6, 6)
	want = [][]api.Point{{at(-1, 0)}}
	if e != api.OK || !slices.EqualFunc(l, want, slices.Equal[[]api.Point]) {
		t.Error(l, e)
	}
	l, e = geom.Sweep([]api.Spot{{}, {}}, 0, 6)
	if e != api.OK || !slices.EqualFunc(l, slices.Repeat([][]api.Point{{at(0, 0)}}, 6), slices.Equal[[]api.Point]) {
		t.Error(l, e)
	}
}

// checkSweep checks each polygon of a sweep and that the points at its stations lie in it.
func checkSweep(t *testing.T, l []api.Spot, from, to int) {
	t.Helper()
	polygons, e := geom.Sweep(l, from, to)
	if e != api.OK || len(polygons) != max(1, to-from) {
		t.Fatal(l, from, to, polygons, e)
	}
	for i, polygon := range polygons {
		first := from + i
		points := turned(t, l, first)
		if from < to {
			points = append(points, turned(t, l, first+1)...)
		}
		if !slices.Equal(polygon, hull(t, points)) {
			t.Error(l, from, to, i, polygon)
		}
		checkHull(t, points, polygon)
	}
}

func TestSweepOfRandomSpots(t *testing.T) {
	r := rand.New(rand.NewSource(4))
	for range 60 {
		l := randomSpots(r, api.MaxPoints/2, api.MaxCoord)
		for from := range 7 {
			for to := from; to <= 6; to++ {
				checkSweep(t, l, from, to)
			}
		}
	}
}

func TestSweepKeepsItsArgument(t *testing.T) {
	l := []api.Spot{{X: 9, Y: 1}, {X: 3, Y: 3}, {X: 1, Y: 2}, {X: 5, Y: 5}}
	kept := slices.Clone(l)
	polygons, e := geom.Sweep(l, 0, 2)
	if e != api.OK || !slices.Equal(l, kept) {
		t.Fatal(l, e)
	}
	second := slices.Clone(polygons[1])
	_ = append(polygons[0], at(99, 99))
	for i := range polygons[0] {
		polygons[0][i] = at(99, 99)
	}
	if !slices.Equal(polygons[1], second) {
		t.Error("the polygons share memory")
	}
}

func TestSweepErrors(t *testing.T) {
	const m = api.MaxCoord
	for _, x := range []struct {
		name     string
		l        []api.Spot
		from, to int
		want     api.Errno
	}{
		{"no spots", nil, 0, 1, api.ErrArg},
		{"12 spots", make([]api.Spot, 12), 0, 1, api.OK},
		{"13 spots", make([]api.Spot, 13), 0, 1, api.ErrArg},
		{"13 spots at one station", make([]api.Spot, 13), 2, 2, api.ErrArg},
		{"the limits", []api.Spot{{X: m, Y: -m}, {X: -m, Y: m}, {X: m, Y: m}}, 0, 6, api.OK},
		{"X above", []api.Spot{{}, {X: m + 1}}, 0, 1, api.ErrArg},
		{"X below", []api.Spot{{}, {X: -m - 1}}, 0, 1, api.ErrArg},
		{"Y above", []api.Spot{{}, {Y: m + 1}}, 0, 0, api.ErrArg},
		{"Y below", []api.Spot{{}, {Y: -m - 1}}, 0, 1, api.ErrArg},
		{"X far", []api.Spot{{X: wild[1]}}, 0, 1, api.ErrArg},
		{"from below 0", []api.Spot{{}}, -1, 1, api.ErrArg},
		{"to above 6", []api.Spot{{}}, 0, 7, api.ErrArg},
		{"both above 6", []api.Spot{{}}, 7, 7, api.ErrArg},
		{"both below 0", []api.Spot{{}}, -1, -1, api.ErrArg},
		{"from above to", []api.Spot{{}}, 2, 1, api.ErrArg},
		{"far apart", []api.Spot{{}}, wild[1], wild[0], api.ErrArg},
		{"far apart, turned", []api.Spot{{}}, wild[0], wild[1], api.ErrArg},
	} {
		if l, e := geom.Sweep(x.l, x.from, x.to); e != x.want || e != api.OK && len(l) != 0 {
			t.Error(x.name, l, e)
		}
	}
}
