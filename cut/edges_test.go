package cut_test

import (
	"math/rand"
	"slices"
	"testing"

	"sheetmetal/api"
	"sheetmetal/cut"
)

// across returns the horizontal segment from x1 to x2 at y, up the vertical one from y1 to y2 at x.
func across(y, x1, x2 int) api.Segment { return api.Segment{X1: x1, Y1: y, X2: x2, Y2: y} }
func up(x, y1, y2 int) api.Segment     { return api.Segment{X1: x, Y1: y1, X2: x, Y2: y2} }

func TestEdges(t *testing.T) {
	holed := withHole(piece(rect(0, 0, 10, 8)), rect(1, 1, 2, 2))
	holed.Forms = []api.Rect{rect(5, 5, 2, 2)}
	ring := piece(rect(0, 0, 3, 1), rect(0, 2, 3, 1), rect(0, 1, 1, 1), rect(2, 1, 1, 1))
	for _, x := range []struct {
		name   string
		pieces []api.Piece
		want   []api.Edge
	}{
		{"nothing", nil, nil},
		{"holes and forms make no edges", []api.Piece{holed}, []api.Edge{
			{Line: across(0, 0, 10), B: -1}, {Line: across(8, 0, 10), B: -1}, {Line: up(0, 0, 8), B: -1}, {Line: up(10, 0, 8), B: -1}}},
		{"two rectangles of one piece", []api.Piece{piece(rect(0, 0, 2, 1), rect(0, 1, 1, 1))}, []api.Edge{
			{Line: across(0, 0, 2), B: -1}, {Line: across(1, 1, 2), B: -1}, {Line: across(2, 0, 1), B: -1},
			{Line: up(0, 0, 2), B: -1}, {Line: up(1, 1, 2), B: -1}, {Line: up(2, 0, 1), B: -1}}},
		{"a part of a side", []api.Piece{piece(rect(0, 0, 2, 9)), piece(rect(2, 3, 4, 2))}, []api.Edge{
			{Line: across(0, 0, 2), B: -1}, {Line: across(3, 2, 6), A: 1, B: -1}, {Line: across(5, 2, 6), A: 1, B: -1}, {Line: across(9, 0, 2), B: -1},
			{Line: up(0, 0, 9), B: -1}, {Line: up(2, 0, 3), B: -1}, {Line: up(2, 3, 5), A: 0, B: 1}, {Line: up(2, 5, 9), B: -1}, {Line: up(6, 3, 5), A: 1, B: -1}}},
		{"the same two on the same sides, in two rectangles each", []api.Piece{piece(rect(0, 0, 1, 2), rect(0, 2, 1, 2)), piece(rect(1, 0, 1, 1), rect(1, 1, 1, 3))}, []api.Edge{
			{Line: across(0, 0, 1), B: -1}, {Line: across(0, 1, 2), A: 1, B: -1}, {Line: across(4, 0, 1), B: -1}, {Line: across(4, 1, 2), A: 1, B: -1},
			{Line: up(0, 0, 4), B: -1}, {Line: up(1, 0, 4), B: 1}, {Line: up(2, 0, 4), A: 1, B: -1}}},
		{"the other piece has the smaller number", []api.Piece{piece(rect(1, 0, 1, 1)), piece(rect(0, 0, 1, 1))}, []api.Edge{
			{Line: across(0, 0, 1), A: 1, B: -1}, {Line: across(0, 1, 2), B: -1}, {Line: across(1, 0, 1), A: 1, B: -1}, {Line: across(1, 1, 2), B: -1},
			{Line: up(0, 0, 1), A: 1, B: -1}, {Line: up(1, 0, 1), B: 1}, {Line: up(2, 0, 1), B: -1}}},
		{"apart on one line", []api.Piece{piece(rect(0, 0, 1, 1)), piece(rect(5, 0, 1, 1))}, []api.Edge{
			{Line: across(0, 0, 1), B: -1}, {Line: across(0, 5, 6), A: 1, B: -1}, {Line: across(1, 0, 1), B: -1}, {Line: across(1, 5, 6), A: 1, B: -1},
			{Line: up(0, 0, 1), B: -1}, {Line: up(1, 0, 1), B: -1}, {Line: up(5, 0, 1), A: 1, B: -1}, {Line: up(6, 0, 1), A: 1, B: -1}}},
		{"a piece on the two sides of a line, corner at corner", []api.Piece{piece(rect(0, 0, 2, 1), rect(0, 1, 1, 2), rect(1, 2, 2, 1), rect(2, 1, 1, 1))}, []api.Edge{
			{Line: across(0, 0, 2), B: -1}, {Line: across(1, 1, 2), B: -1}, {Line: across(1, 2, 3), B: -1}, {Line: across(2, 1, 2), B: -1}, {Line: across(3, 0, 3), B: -1},
			{Line: up(0, 0, 3), B: -1}, {Line: up(1, 1, 2), B: -1}, {Line: up(2, 0, 1), B: -1}, {Line: up(2, 1, 2), B: -1}, {Line: up(3, 1, 3), B: -1}}},
		{"a piece before, on both sides of and after a line", []api.Piece{piece(rect(0, 0, 1, 2), rect(1, 1, 1, 2))}, []api.Edge{
			{Line: across(0, 0, 1), B: -1}, {Line: across(1, 1, 2), B: -1}, {Line: across(2, 0, 1), B: -1}, {Line: across(3, 1, 2), B: -1},
			{Line: up(0, 0, 2), B: -1}, {Line: up(1, 0, 1), B: -1}, {Line: up(1, 2, 3), B: -1}, {Line: up(2, 1, 3), B: -1}}},
		{"two pieces that change sides", []api.Piece{piece(rect(0, 0, 1, 1), rect(0, 1, 1, 1), rect(0, 2, 1, 1), rect(1, 2, 1, 1)), piece(rect(1, 0, 1, 2), rect(2, 0, 1, 3))}, []api.Edge{
			{Line: across(0, 0, 1), B: -1}, {Line: across(0, 1, 3), A: 1, B: -1}, {Line: across(2, 1, 2), B: 1}, {Line: across(3, 0, 2), B: -1}, {Line: across(3, 2, 3), A: 1, B: -1},
			{Line: up(0, 0, 3), B: -1}, {Line: up(1, 0, 2), B: 1}, {Line: up(2, 2, 3), B: 1}, {Line: up(3, 0, 3), A: 1, B: -1}}},
		{"four around a spot", []api.Piece{piece(rect(0, 0, 1, 1)), piece(rect(1, 1, 1, 1)), piece(rect(1, 0, 1, 1)), piece(rect(0, 1, 1, 1))}, []api.Edge{
			{Line: across(0, 0, 1), B: -1}, {Line: across(0, 1, 2), A: 2, B: -1}, {Line: across(1, 0, 1), B: 3}, {Line: across(1, 1, 2), A: 1, B: 2}, {Line: across(2, 0, 1), A: 3, B: -1}, {Line: across(2, 1, 2), A: 1, B: -1},
			{Line: up(0, 0, 1), B: -1}, {Line: up(0, 1, 2), A: 3, B: -1}, {Line: up(1, 0, 1), B: 2}, {Line: up(1, 1, 2), A: 1, B: 3}, {Line: up(2, 0, 1), A: 2, B: -1}, {Line: up(2, 1, 2), A: 1, B: -1}}},
		{"one of two in the corner of the other", []api.Piece{piece(rect(0, 0, 1, 1), rect(0, 1, 1, 1), rect(1, 1, 1, 1)), piece(rect(1, 0, 1, 1), rect(2, 0, 1, 2), rect(0, 2, 3, 1))}, []api.Edge{
			{Line: across(0, 0, 1), B: -1}, {Line: across(0, 1, 3), A: 1, B: -1}, {Line: across(1, 1, 2), B: 1}, {Line: across(2, 0, 2), B: 1}, {Line: across(3, 0, 3), A: 1, B: -1},
			{Line: up(0, 0, 2), B: -1}, {Line: up(0, 2, 3), A: 1, B: -1}, {Line: up(1, 0, 1), B: 1}, {Line: up(2, 1, 2), B: 1}, {Line: up(3, 0, 3), A: 1, B: -1}}},
		{"in a ring, from the border of the sheet on", []api.Piece{ring, piece(rect(1, 1, 1, 1))}, []api.Edge{
			{Line: across(0, 0, 3), B: -1}, {Line: across(1, 1, 2), B: 1}, {Line: across(2, 1, 2), B: 1}, {Line: across(3, 0, 3), B: -1},
			{Line: up(0, 0, 3), B: -1}, {Line: up(1, 1, 2), B: 1}, {Line: up(2, 1, 2), B: 1}, {Line: up(3, 0, 3), B: -1}}},
		{"an empty ring", []api.Piece{ring}, []api.Edge{
			{Line: across(0, 0, 3), B: -1}, {Line: across(1, 1, 2), B: -1}, {Line: across(2, 1, 2), B: -1}, {Line: across(3, 0, 3), B: -1},
			{Line: up(0, 0, 3), B: -1}, {Line: up(1, 1, 2), B: -1}, {Line: up(2, 1, 2), B: -1}, {Line: up(3, 0, 3), B: -1}}},
	} {
		l := api.Layout{Sheet: sheet(100, 100), Pieces: x.pieces}
		if got, e := cut.Edges(l); e != api.OK || !slices.Equal(got, x.want) {
			t.Error(x.name, got, e)
		}
	}
	// A sheet's clamps and what is used make no edges.
	l := plates()
	l.Pieces = []api.Piece{piece(rect(10, 0, 80, 10))}
	want := []api.Edge{{Line: across(0, 10, 90), B: -1}, {Line: across(10, 10, 90), B: -1}, {Line: up(10, 0, 10), B: -1}, {Line: up(90, 0, 10), B: -1}}
	if got, e := cut.Edges(l); e != api.OK || !slices.Equal(got, want) {
		t.Error(got, e)
	}
	full := api.Layout{Sheet: sheet(top, top), Pieces: []api.Piece{piece(rect(0, 0, top, top))}}
	want = []api.Edge{{Line: across(0, 0, top), B: -1}, {Line: across(top, 0, top), B: -1}, {Line: up(0, 0, top), B: -1}, {Line: up(top, 0, top), B: -1}}
	if got, e := cut.Edges(full); e != api.OK || !slices.Equal(got, want) {
		t.Error(got, e)
	}
}

// edgesByCells returns the edges of a layout of cells: each line is gone along cell by cell, and an edge ends where something changes on one of its sides.
func edgesByCells(l api.Layout) []api.Edge {
	cells := cellsOf(l)
	at := func(x, y int) int {
		if i, found := cells[api.Spot{X: x, Y: y}]; found {
			return i
		}
		return -1
	}
	var result []api.Edge
	trace := func(length int, sides func(n int) (int, int), segment func(from, to int) api.Segment) {
		for from := 0; from < length; {
			before, after := sides(from)
			to := from + cell
			for ; to < length; to += cell {
				if b, a := sides(to); b != before || a != after {
					break
				}
			}
			if before != after {
				e := api.Edge{Line: segment(from, to), A: min(before, after), B: max(before, after)}
				if e.A < 0 {
					e.A, e.B = e.B, e.A
				}
				result = append(result, e)
			}
			from = to
		}
	}
	for y := 0; y <= l.Sheet.Height; y += cell {
		trace(l.Sheet.Width, func(x int) (int, int) { return at(x, y-cell), at(x, y) }, func(from, to int) api.Segment { return across(y, from, to) })
	}
	for x := 0; x <= l.Sheet.Width; x += cell {
		trace(l.Sheet.Height, func(y int) (int, int) { return at(x-cell, y), at(x, y) }, func(from, to int) api.Segment { return up(x, from, to) })
	}
	return result
}

func TestEdgesByCells(t *testing.T) {
	r := rand.New(rand.NewSource(73))
	open, common := 0, 0
	for range 1000 {
		l := randomLayout(r)
		got, e := cut.Edges(l)
		if want := edgesByCells(l); e != api.OK || !slices.Equal(got, want) {
			t.Error(l, got, want, e)
		}
		for _, x := range got {
			if x.B < 0 {
				open++
			} else {
				common++
			}
		}
	}
	if open < 5000 || common < 3000 {
		t.Error("too few", open, common)
	}
}

// combs returns a layout with as many rectangles as there may be: eight columns of twelve cells, of which every other one is wider.
func combs() api.Layout {
	l := api.Layout{Sheet: sheet(16*cell, 12*cell)}
	for i := range api.MaxPieces {
		x := piece()
		for j := range 12 {
			// The columns interlock: where one is wide, the next one begins later.
			from, to := 2*i+(j+i+1)%2*min(i, 1), 2*i+2+(j+i)%2*min(7-i, 1)
			x.Rects = append(x.Rects, rect(from*cell, j*cell, (to-from)*cell, cell))
		}
		l.Pieces = append(l.Pieces, x)
	}
	return l
}

func TestEdgesOfManyRectangles(t *testing.T) {
	l := combs()
	got, e := cut.Edges(l)
	if want := edgesByCells(l); e != api.OK || !slices.Equal(got, want) || len(got) < 150 {
		t.Error(got, want, e)
	}
}
