package cut

import (
	"cmp"
	"slices"

	"sheetmetal/api"
)

// Plan returns items that cut all of a layout: first all holes, then the outlines.
func Plan(l api.Layout) ([]api.Item, api.Errno) {
	w, e := newWork(l)
	if e != api.OK {
		return nil, e
	}
	var items []api.Item
	for i, x := range w.Pieces {
		for j, r := range x.Cuts {
			items = append(items, api.Item{Piece: i, Hole: j, Lead: api.Spot{X: r.X + r.W/2, Y: r.Y + r.H/2}})
		}
	}
	st := w.start()
	for _, i := range w.fromTheRight() {
		x := w.outlineOf(st, i)
		w.do(st, x)
		items = append(items, x)
	}
	return items, api.OK
}

// fromTheRight returns the numbers of the pieces in descending order of their smallest X. So nothing on the left of a piece is cut before it, and its leftmost edges are left for its outline.
func (w work) fromTheRight() []int {
	var order, lefts []int
	for i, x := range w.Pieces {
		around, _ := frame(x.Rects)
		order, lefts = append(order, i), append(lefts, around.X)
	}
	slices.SortStableFunc(order, func(a, b int) int { return cmp.Compare(lefts[b], lefts[a]) })
	return order
}

// outlineOf returns the item for the outline of a piece of which an edge is not cut. Its lead is at the beginning of the first such edge: no spot of a border is in the interior of a piece or of clamps.
func (w work) outlineOf(st State, piece int) api.Item {
	x := api.Item{Piece: piece, Hole: outline}
	if Small(w.Pieces[piece]) {
		x.Joints = 1
	}
	for i, e := range w.edges {
		if isOf(e, piece) && !st.Cut[i] {
			x.Lead = api.Spot{X: e.Line.X1, Y: e.Line.Y1}
			break
		}
	}
	return x
}
