package cut

import (
	"slices"

	"sheetmetal/api"
)

// none is the number of a piece where there is none.
const none = -1

// Edges returns the edges of a layout: first the horizontal ones, then the vertical ones.
func Edges(l api.Layout) ([]api.Edge, api.Errno) {
	w, e := newWork(l)
	return w.edges, e
}

// sides is what lies on the two sides of a line that is on a border. It is nil for other lines.
type sides interface {
	// equals reports whether the same things lie on the same sides of another line.
	equals(other sides) bool
}

// outer are the sides of a line with a piece on one of them only: after the line (above it, or on its right) or before it.
type outer struct {
	piece int
	after bool
}

// shared are the sides of a line between two pieces.
type shared struct {
	before, after int
}

func (s outer) equals(other sides) bool {
	o, same := other.(outer)
	return same && s == o
}

func (s shared) equals(other sides) bool {
	o, same := other.(shared)
	return same && s == o
}

// sidesOf returns the sides of a line between two pieces, each of which may be none.
func sidesOf(before, after int) sides {
	switch {
	case before == after:
		return nil
	case before == none:
		return outer{piece: after, after: true}
	case after == none:
		return outer{piece: before}
	}
	return shared{before: before, after: after}
}

// edgeOf returns the edge along a line with these sides, or false if the line is on no border.
func edgeOf(line api.Segment, s sides) (api.Edge, bool) {
	switch s := s.(type) {
	case outer:
		return api.Edge{Line: line, A: s.piece, B: none}, true
	case shared:
		return api.Edge{Line: line, A: min(s.before, s.after), B: max(s.before, s.after)}, true
	}
	return api.Edge{}, false
}

// face is a rectangle of a piece, with the number of the piece.
type face struct {
	api.Rect
	piece int
}

// edgesOf returns the edges of pieces that do not overlap.
func edgesOf(pieces []api.Piece) []api.Edge {
	var upright, swapped []face
	for i, x := range pieces {
		for _, r := range x.Rects {
			upright = append(upright, face{r, i})
			swapped = append(swapped, face{api.Rect{X: r.Y, Y: r.X, W: r.H, H: r.W}, i})
		}
	}
	l := horizontal(upright)
	for _, e := range horizontal(swapped) {
		e.Line = api.Segment{X1: e.Line.Y1, Y1: e.Line.X1, X2: e.Line.Y2, Y2: e.Line.X2}
		l = append(l, e)
	}
	return l
}

// horizontal returns the horizontal edges of faces, in ascending order of their lines.
func horizontal(l []face) []api.Edge {
	var result []api.Edge
	var ys []int
	for _, f := range l {
		ys = append(ys, f.Y, f.Y+f.H)
	}
	for _, y := range sortUnique(ys) {
		// No face crosses a border, so at an edge a face ends or begins on each side that has one.
		n := level{y: y}
		for _, f := range l {
			switch y {
			case f.Y:
				n.above = append(n.above, f)
			case f.Y + f.H:
				n.below = append(n.below, f)
			}
		}
		result = append(result, n.edges()...)
	}
	return result
}

// level is a horizontal line, with the faces that end and those that begin at it.
type level struct {
	y            int
	below, above []face
}

// edges returns the edges on the level.
func (n level) edges() []api.Edge {
	var l []api.Edge
	var last sides
	marks := n.marks()
	for i := range len(marks) - 1 {
		now := sidesOf(pieceAt(n.below, marks[i]), pieceAt(n.above, marks[i]))
		e, found := edgeOf(api.Segment{X1: marks[i], Y1: n.y, X2: marks[i+1], Y2: n.y}, now)
		switch {
		case !found:
		case now.equals(last):
			l[len(l)-1].Line.X2 = marks[i+1]
		default:
			l = append(l, e)
		}
		last = now
	}
	return l
}

// marks returns the X at which what lies on the sides of the level may change.
func (n level) marks() []int {
	var l []int
	for _, f := range n.below {
		l = append(l, f.X, f.X+f.W)
	}
	for _, f := range n.above {
		l = append(l, f.X, f.X+f.W)
	}
	return sortUnique(l)
}

// pieceAt returns the piece of the face that lies to the right of x.
func pieceAt(l []face, x int) int {
	for _, f := range l {
		if f.X <= x && x < f.X+f.W {
			return f.piece
		}
	}
	return none
}

// sortUnique returns the set of the numbers of l, whose order changes.
func sortUnique(l []int) []int {
	slices.Sort(l)
	return slices.Compact(l)
}
