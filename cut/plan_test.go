package cut_test

import (
	"math/rand"
	"slices"
	"testing"

	"sheetmetal/api"
	"sheetmetal/cut"
)

// plannedLayouts are layouts for which not every order of outlines is right.
func plannedLayouts() map[string]api.Layout {
	twelve := piece(rect(side, side, side, side))
	for i := range 12 {
		twelve.Cuts = append(twelve.Cuts, rect(side+1+10*i, side+1, 2+i%3, 2+i%5))
	}
	full := layout()
	for i := range api.MaxPieces {
		full.Pieces = append(full.Pieces, moved(twelve, i%4*side, i/4*side))
	}
	tiny := layout()
	for i := range api.MaxPieces {
		tiny.Pieces = append(tiny.Pieces, piece(rect(i%3, i/3, 1, 1)))
	}
	clamped := layout(square(0, 0))
	clamped.Sheet.Clamps = []api.Rect{rect(0, 0, 3*side, side), rect(0, side, side, 3*side), rect(2*side, side, side, 3*side), rect(side, 2*side, side, side)}
	rings := layout()
	for i := range 8 {
		low, high := i*cell, (17-i)*cell
		rings.Pieces = append(rings.Pieces, piece(rect(low, low, high-low, cell), rect(low, high-cell, high-low, cell),
			rect(low, low+cell, cell, high-low-2*cell), rect(high-cell, low+cell, cell, high-low-2*cell)))
	}
	turned := layout(rings.Pieces...)
	turned.Pieces = slices.Clone(rings.Pieces)
	slices.Reverse(turned.Pieces)
	// The lowest edge of the last piece is cut before it, and so are all others near it.
	leg := layout(piece(rect(6*side, 0, 2*side, side)), piece(rect(side, side, 5*side, 3*side)), piece(rect(0, 4*side, 8*side, side), rect(6*side, side, 2*side, 3*side)))
	return map[string]api.Layout{
		"a leg between others":        leg,
		"nothing":                     layout(),
		"one":                         layout(square(0, 0)),
		"two that touch":              layout(square(0, 0), square(1, 0)),
		"between four":                layout(square(1, 1), square(0, 1), square(2, 1), square(1, 0), square(1, 2)),
		"between four, the last one":  layout(square(0, 1), square(2, 1), square(1, 0), square(1, 2), square(1, 1)),
		"nine squares but one":        layout(square(0, 0), square(1, 0), square(2, 0), square(0, 1), square(1, 1), square(2, 1), square(0, 2), square(1, 2)),
		"as many holes as can be":     full,
		"tiny pieces at a corner":     tiny,
		"between clamps":              clamped,
		"a ring in a ring, and so on": rings,
		"the rings from inside":       turned,
		"the whole sheet":             {Sheet: sheet(top, top), Pieces: []api.Piece{piece(rect(0, 0, top, top))}},
		"ninety-six rectangles":       combs(),
		"a hole of two by two":        layout(withHole(square(0, 0), rect(side+1, side+1, 2, 2))),
	}
}

// expectPlan holds that Check accepts what Plan returns, and that each piece falls at most once in it.
func expectPlan(t *testing.T, name string, l api.Layout) []api.Item {
	t.Helper()
	items, e := cut.Plan(l)
	if e != api.OK {
		t.Error(name, l, e)
	}
	if e := cut.Check(l, items); e != api.OK {
		t.Error(name, l, items, e)
	}
	holes := 0
	for _, x := range l.Pieces {
		holes += len(x.Cuts)
	}
	if len(items) != holes+len(l.Pieces) {
		t.Error(name, l, items)
	}
	return items
}

// lengthOf returns the length of the borders of the holes and edges of a layout.
func lengthOf(l api.Layout) int {
	n := 0
	for _, x := range l.Pieces {
		for _, r := range x.Cuts {
			n += r.W + r.W + r.H + r.H
		}
	}
	edges, _ := cut.Edges(l)
	for _, e := range edges {
		n += max(e.Line.X2-e.Line.X1, e.Line.Y2-e.Line.Y1)
	}
	return n
}

func TestPlan(t *testing.T) {
	for name, l := range plannedLayouts() {
		items := expectPlan(t, name, l)
		if n, e := cut.Length(l, items); e != api.OK || n != lengthOf(l) {
			t.Error(name, n, e)
		}
	}
}

func TestPlanOfRandomLayouts(t *testing.T) {
	r := rand.New(rand.NewSource(77))
	for range 600 {
		expectPlan(t, "random", randomLayout(r))
	}
}

func TestLength(t *testing.T) {
	two := layout(square(0, 0), withHole(square(1, 0), rect(2*side+10, side+10, 100, 50)))
	corner := piece(rect(side, side, 2*side, side), rect(side, 2*side, side, side))
	for _, x := range []struct {
		name  string
		l     api.Layout
		items []api.Item
		want  int
	}{
		{"nothing", layout(), nil, 0},
		{"one", layout(square(0, 0)), []api.Item{{Hole: -1, Lead: api.Spot{X: side, Y: side}}}, 4 * side},
		{"two that touch", two, append([]api.Item{hole(two, 1, 0)}, outlines(two, 0, 1)...), 7*side + 300},
		{"two that touch, the other one first", two, append([]api.Item{hole(two, 1, 0)}, outlines(two, 1, 0)...), 7*side + 300},
		{"two that touch, with joints", two, []api.Item{outline(two, 0, 4), hole(two, 1, 0), outline(two, 1, 2)}, 7*side + 300},
		{"two apart", layout(square(0, 0), square(2, 0)), outlines(layout(square(0, 0), square(2, 0)), 0, 1), 8 * side},
		{"corner at corner", layout(square(0, 0), square(1, 1)), outlines(layout(square(0, 0), square(1, 1)), 1, 0), 8 * side},
		{"a corner", layout(corner), outlines(layout(corner), 0), 8 * side},
	} {
		if n, e := cut.Length(x.l, x.items); n != x.want || e != api.OK {
			t.Error(x.name, n, e)
		}
	}
}

// TestLengthOfAnyOrder holds that Length is the same for all orders that Check accepts, and is what the edges that become cut with each item and the holes add up to.
func TestLengthOfAnyOrder(t *testing.T) {
	r := rand.New(rand.NewSource(78))
	accepted, refused := 0, 0
	for range 1500 {
		l := randomLayout(r)
		items, e := cut.Plan(l)
		if e != api.OK {
			t.Fatal(l, e)
		}
		r.Shuffle(len(items), func(i, j int) { items[i], items[j] = items[j], items[i] })
		want := cut.Check(l, items)
		n, e := cut.Length(l, items)
		if e != want || e != api.OK && n != 0 {
			t.Error(l, items, n, e)
		}
		if e != api.OK {
			refused++
			continue
		}
		accepted++
		if n != lengthOf(l) || n != lengthOneByOne(t, l, items) {
			t.Error(l, items, n)
		}
	}
	if accepted < 200 || refused < 200 {
		t.Error("too few", accepted, refused)
	}
}

// lengthOneByOne adds up what becomes cut with each item.
func lengthOneByOne(t *testing.T, l api.Layout, items []api.Item) int {
	t.Helper()
	edges, _ := cut.Edges(l)
	st, n := start(t, l), 0
	for _, x := range items {
		next, e := cut.Do(l, st, x)
		if e != api.OK {
			t.Fatal(l, items, e)
		}
		if x.Hole >= 0 {
			r := l.Pieces[x.Piece].Cuts[x.Hole]
			n += 2 * (r.W + r.H)
		}
		for i, edge := range edges {
			if next.Cut[i] && !st.Cut[i] {
				n += edge.Line.X2 - edge.Line.X1 + edge.Line.Y2 - edge.Line.Y1
			}
		}
		st = next
	}
	return n
}
