package cut

import (
	"slices"

	"sheetmetal/api"
)

// work is a valid layout that is to be cut, with its edges.
type work struct {
	api.Layout
	edges []api.Edge
}

// newWork returns the work of a layout, or the error of the layout.
func newWork(l api.Layout) (work, api.Errno) {
	if e := Validate(l); e != api.OK {
		return work{}, e
	}
	return work{Layout: l, edges: edgesOf(l.Pieces)}, api.OK
}

// start returns the state in which nothing is cut.
func (w work) start() State {
	n := len(w.Pieces)
	st := State{Cut: make([]bool, len(w.edges)), Done: make([]bool, n), Joints: make([]int, n), Fallen: make([]bool, n)}
	for _, x := range w.Pieces {
		st.Holes = append(st.Holes, make([]bool, len(x.Cuts)))
	}
	return st
}

// clone returns a state that shares no memory.
func (st State) clone() State {
	c := State{Cut: slices.Clone(st.Cut), Done: slices.Clone(st.Done), Joints: slices.Clone(st.Joints), Fallen: slices.Clone(st.Fallen)}
	for _, l := range st.Holes {
		c.Holes = append(c.Holes, slices.Clone(l))
	}
	return c
}

// run does items one by one. It returns the state at the end and the pieces that fell with each item, or the index and the error of the first item that has one.
func (w work) run(items []api.Item) (st State, falls [][]int, at int, e api.Errno) {
	if len(items) > api.MaxItems {
		return State{}, nil, 0, api.ErrLarge
	}
	st = w.start()
	for i, x := range items {
		if e := w.check(st, x); e != api.OK {
			return State{}, nil, i, e
		}
		falls = append(falls, w.do(st, x))
	}
	return st, falls, 0, api.OK
}

// check returns the error of an item in a state.
func (w work) check(st State, x api.Item) api.Errno {
	switch {
	case !w.fits(st) || !w.has(x):
		return api.ErrArg
	case w.isTooLate(st, x):
		return api.ErrOrder
	case x.Hole == outline && x.Joints == 0 && Small(w.Pieces[x.Piece]):
		return api.ErrJoint
	case !w.leads(st, x):
		return api.ErrLead
	}
	return api.OK
}

// fits reports whether the lists of a state have the right lengths.
func (w work) fits(st State) bool {
	n := len(w.Pieces)
	if len(st.Cut) != len(w.edges) || len(st.Holes) != n || len(st.Done) != n || len(st.Joints) != n || len(st.Fallen) != n {
		return false
	}
	for i, x := range w.Pieces {
		if len(st.Holes[i]) != len(x.Cuts) {
			return false
		}
	}
	return true
}

// has reports whether there is what an item cuts, and it may have these joints.
func (w work) has(x api.Item) bool {
	if !within(x.Piece, 0, len(w.Pieces)-1) {
		return false
	}
	if x.Hole == outline {
		return within(x.Joints, 0, api.MaxJoints)
	}
	return within(x.Hole, 0, len(w.Pieces[x.Piece].Cuts)-1) && x.Joints == 0
}

// isTooLate reports whether what an item cuts is cut or has fallen, or it is an outline and still too early for it.
func (w work) isTooLate(st State, x api.Item) bool {
	switch {
	case st.Fallen[x.Piece]:
		return true
	case x.Hole != outline:
		return st.Holes[x.Piece][x.Hole]
	}
	return st.Done[x.Piece] || !all(st.Holes[x.Piece]) || w.isLoose(st, x.Piece)
}

// isLoose reports whether all edges of a piece are cut.
func (w work) isLoose(st State, piece int) bool {
	for i, e := range w.edges {
		if isOf(e, piece) && !st.Cut[i] {
			return false
		}
	}
	return true
}

// leads reports whether the lead of an item is at a spot at which it may be.
func (w work) leads(st State, x api.Item) bool {
	if x.Hole != outline {
		r := w.Pieces[x.Piece].Cuts[x.Hole]
		return within(x.Lead.X, r.X+1, r.X+r.W-1) && within(x.Lead.Y, r.Y+1, r.Y+r.H-1)
	}
	return w.isWaste(x.Lead) && w.isNearUncut(st, x)
}

// isWaste reports whether a spot is on the sheet, but neither in a piece nor in clamps.
func (w work) isWaste(s api.Spot) bool {
	if !within(s.X, 0, w.Sheet.Width) || !within(s.Y, 0, w.Sheet.Height) || InRegion(w.Sheet.Clamps, s) {
		return false
	}
	for _, x := range w.Pieces {
		if InRegion(x.Rects, s) {
			return false
		}
	}
	return true
}

// isNearUncut reports whether the lead of an outline, which is on the sheet, is near an edge that is not cut.
func (w work) isNearUncut(st State, x api.Item) bool {
	for i, e := range w.edges {
		if isOf(e, x.Piece) && !st.Cut[i] && distance(x.Lead, e.Line) <= api.MaxLead*api.Scale {
			return true
		}
	}
	return false
}

// do changes the lists of a state, which has them for itself, to those after an item without an error, and returns the pieces that fall.
func (w work) do(st State, x api.Item) []int {
	if x.Hole == outline {
		st.Done[x.Piece], st.Joints[x.Piece] = true, x.Joints
		for i, e := range w.edges {
			if isOf(e, x.Piece) {
				st.Cut[i] = true
			}
		}
	} else {
		st.Holes[x.Piece][x.Hole] = true
	}
	var falls []int
	for i := range w.Pieces {
		isHeld := st.Done[i] && st.Joints[i] > 0
		if !st.Fallen[i] && !isHeld && w.isLoose(st, i) {
			st.Fallen[i] = true
			falls = append(falls, i)
		}
	}
	return falls
}

// isOf reports whether an edge is one of a piece.
func isOf(e api.Edge, piece int) bool {
	return e.A == piece || e.B == piece
}

// distance returns the larger one of the gaps in X and Y between a spot and a line.
func distance(s api.Spot, l api.Segment) int {
	return max(0, l.X1-s.X, s.X-l.X2, l.Y1-s.Y, s.Y-l.Y2)
}

func all(l []bool) bool {
	return !slices.Contains(l, false)
}
