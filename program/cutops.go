package program

import (
	"sheetmetal/api"
	"sheetmetal/cut"
)

// cutProgram is a program for cutting that is being written.
type cutProgram struct {
	ops   []api.Op
	edges []api.Edge
	isCut []bool        // by edge
	gaps  []api.Segment // of the micro joints, in the order in which they arose
}

// CutOps returns the program for a layout and items that cut all of it.
func CutOps(l api.Layout, items []api.Item) ([]api.Op, api.Errno) {
	if e := cut.Check(l, items); e != api.OK {
		return nil, e
	}
	edges, e := cut.Edges(l)
	if e != api.OK {
		return nil, e
	}
	w := cutProgram{edges: edges, isCut: make([]bool, len(edges))}
	for _, r := range formsOf(l) {
		w.ops = append(w.ops, api.Op{Kind: api.OpStamp, X: r.X, Y: r.Y, W: r.W, H: r.H})
	}
	for _, x := range items {
		w.add(api.OpMove, x.Lead.X, x.Lead.Y)
		if x.Hole < 0 {
			w.outline(x.Piece, x.Joints)
		} else {
			w.hole(l.Pieces[x.Piece].Cuts[x.Hole])
		}
	}
	for _, gap := range w.gaps {
		w.line(gap, api.OpBreak)
	}
	return w.ops, api.OK
}

// formsOf returns the forms of all pieces of a layout, in order.
func formsOf(l api.Layout) []api.Rect {
	var forms []api.Rect
	for _, x := range l.Pieces {
		forms = append(forms, x.Forms...)
	}
	return forms
}

// add writes an operation that goes to x, y.
func (w *cutProgram) add(kind, x, y int) {
	w.ops = append(w.ops, opAt(kind, x, y))
}

// line writes the operations that go to the beginning of a line, and then along it by an operation of a kind.
func (w *cutProgram) line(s api.Segment, kind int) {
	w.add(api.OpMove, s.X1, s.Y1)
	w.add(kind, s.X2, s.Y2)
}

// hole writes the operations that go around a hole.
func (w *cutProgram) hole(r api.Rect) {
	w.add(api.OpMove, r.X, r.Y)
	w.add(api.OpLine, r.X+r.W, r.Y)
	w.add(api.OpLine, r.X+r.W, r.Y+r.H)
	w.add(api.OpLine, r.X, r.Y+r.H)
	w.add(api.OpLine, r.X, r.Y)
}

// outline writes the operations that cut what is left of the outline of a piece.
func (w *cutProgram) outline(piece, joints int) {
	for i, e := range w.edges {
		if w.isCut[i] || e.A != piece && e.B != piece {
			continue
		}
		w.isCut[i] = true
		line := e.Line
		if joints > 0 {
			line = w.leaveGap(line)
			joints--
		}
		w.line(line, api.OpLine)
	}
}

// leaveGap keeps the gap at the end of an edge with a joint for later, if it has a length, and returns what is ahead of it.
func (w *cutProgram) leaveGap(s api.Segment) api.Segment {
	gap := min(api.Scale, (s.X2-s.X1+s.Y2-s.Y1)/2)
	ahead := s
	if s.X1 < s.X2 {
		ahead.X2 -= gap
	} else {
		ahead.Y2 -= gap
	}
	if gap > 0 {
		w.gaps = append(w.gaps, api.Segment{X1: ahead.X2, Y1: ahead.Y2, X2: s.X2, Y2: s.Y2})
	}
	return ahead
}
