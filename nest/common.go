package nest

import (
	"sheetmetal/api"
	"sheetmetal/geom"
)

// Common returns the lines that the borders of the regions of a and b share.
func Common(a, b []api.Rect) ([]api.Segment, api.Errno) {
	if len(a) > api.MaxRects || len(b) > api.MaxRects {
		return nil, api.ErrLarge
	}
	first, e := geom.Outline(a)
	if e != api.OK {
		return nil, e
	}
	second, e := geom.Outline(b)
	if e != api.OK {
		return nil, e
	}
	if anyOverlap(a, b) {
		return nil, api.ErrOverlap
	}
	// Where the two outlines lie on one another, the regions are on different sides, because they do not overlap. The order of the outlines gives that of the result.
	var l []api.Segment
	for _, s := range first {
		for _, other := range second {
			if line, found := commonPart(s, other); found {
				l = append(l, line)
			}
		}
	}
	return l, api.OK
}

// commonPart returns what two segments, or two rectangles given by their corners, have in common, if it is more than a point.
func commonPart(a, b api.Segment) (api.Segment, bool) {
	s := api.Segment{X1: max(a.X1, b.X1), Y1: max(a.Y1, b.Y1), X2: min(a.X2, b.X2), Y2: min(a.Y2, b.Y2)}
	return s, s.X1 <= s.X2 && s.Y1 <= s.Y2 && (s.X1 < s.X2 || s.Y1 < s.Y2)
}

// corners returns the lower left and the upper right corner of a rectangle.
func corners(r api.Rect) api.Segment {
	return api.Segment{X1: r.X, Y1: r.Y, X2: r.X + r.W, Y2: r.Y + r.H}
}
