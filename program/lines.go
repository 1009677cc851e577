package program

import (
	"cmp"
	"slices"

	"sheetmetal/api"
)

// between returns the line between two spots, with its X and its Y in ascending order if it is horizontal or vertical.
func between(a, b api.Spot) api.Segment {
	return api.Segment{X1: min(a.X, b.X), Y1: min(a.Y, b.Y), X2: max(a.X, b.X), Y2: max(a.Y, b.Y)}
}

// isLine reports whether a segment is horizontal with X1 below X2, or vertical with Y1 below Y2.
func isLine(s api.Segment) bool {
	return isHorizontal(s) && s.X1 < s.X2 || s.X1 == s.X2 && s.Y1 < s.Y2
}

func isHorizontal(s api.Segment) bool {
	return s.Y1 == s.Y2
}

// enters reports whether a line has a point strictly inside of a rectangle.
func enters(s api.Segment, r api.Rect) bool {
	return s.X1 < r.X+r.W && s.X2 > r.X && s.Y1 < r.Y+r.H && s.Y2 > r.Y
}

// union returns the lines that those of l, whose order changes, make together, each as long as possible: first the horizontal ones, then the vertical ones.
func union(l []api.Segment) []api.Segment {
	slices.SortFunc(l, compareLines)
	var joined []api.Segment
	for _, s := range l {
		if last := len(joined) - 1; last >= 0 && goesOn(joined[last], s) {
			joined[last].X2, joined[last].Y2 = max(joined[last].X2, s.X2), max(joined[last].Y2, s.Y2)
		} else {
			joined = append(joined, s)
		}
	}
	return joined
}

// compareLines has the order of geom.Outline.
func compareLines(a, b api.Segment) int {
	switch {
	case isHorizontal(a) != isHorizontal(b):
		if isHorizontal(a) {
			return -1
		}
		return 1
	case isHorizontal(a):
		return cmp.Or(cmp.Compare(a.Y1, b.Y1), cmp.Compare(a.X1, b.X1))
	}
	return cmp.Or(cmp.Compare(a.X1, b.X1), cmp.Compare(a.Y1, b.Y1))
}

// goesOn reports whether s goes on with a line that comes before it in their order: it lies on the same whole line and begins before the end of the other, or at it.
func goesOn(before, s api.Segment) bool {
	if isHorizontal(before) != isHorizontal(s) {
		return false
	}
	if isHorizontal(s) {
		return s.Y1 == before.Y1 && s.X1 <= before.X2
	}
	return s.X1 == before.X1 && s.Y1 <= before.Y2
}
