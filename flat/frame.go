package flat

import "sheetmetal/api"

// frame is a system of local coordinates u and v in the plane, all in ticks.
type frame struct {
	x, y  int // the place of its origin
	turns int // the quarter turns counterclockwise that take the X axis to u and the Y axis to v
}

// point returns the point of the plane with the local coordinates u and v.
func (f frame) point(u, v int) (x, y int) {
	for range f.turns {
		u, v = -v, u
	}
	return f.x + u, f.y + v
}

// line returns the line of the plane whose ends have the local coordinates of s.
func (f frame) line(s api.Segment) api.Segment {
	x1, y1 := f.point(s.X1, s.Y1)
	x2, y2 := f.point(s.X2, s.Y2)
	return api.Segment{X1: x1, Y1: y1, X2: x2, Y2: y2}
}

// rect returns the rectangle of the plane whose corners have the local coordinates of those of r.
func (f frame) rect(r api.Rect) api.Rect {
	s := inOrder(f.line(api.Segment{X1: r.X, Y1: r.Y, X2: r.X + r.W, Y2: r.Y + r.H}))
	return api.Rect{X: s.X1, Y: s.Y1, W: s.X2 - s.X1, H: s.Y2 - s.Y1}
}

// rects is rect for each of a list.
func (f frame) rects(l []api.Rect) []api.Rect {
	var result []api.Rect
	for _, r := range l {
		result = append(result, f.rect(r))
	}
	return result
}

// pattern returns the pattern of the plane for one in local coordinates.
func (f frame) pattern(p api.Flat) api.Flat {
	result := api.Flat{Rects: f.rects(p.Rects), Cuts: f.rects(p.Cuts), Forms: f.rects(p.Forms)}
	for _, b := range p.Bends {
		b.Line = f.line(b.Line)
		result.Bends = append(result.Bends, b)
	}
	return result
}

// isOrdered reports whether X1 is at most X2, and Y1 at most Y2.
func isOrdered(s api.Segment) bool {
	return s == inOrder(s)
}

// inOrder returns s with its X and its Y in ascending order.
func inOrder(s api.Segment) api.Segment {
	return api.Segment{X1: min(s.X1, s.X2), Y1: min(s.Y1, s.Y2), X2: max(s.X1, s.X2), Y2: max(s.Y1, s.Y2)}
}
