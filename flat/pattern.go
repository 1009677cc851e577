package flat

import (
	"cmp"
	"slices"

	"sheetmetal/api"
	"sheetmetal/geom"
)

// Bounds returns the smallest rectangle that contains all of Rects.
func Bounds(f api.Flat) (api.Rect, api.Errno) {
	if e := check(f); e != api.OK {
		return api.Rect{}, e
	}
	return bounds(f.Rects), api.OK
}

// Settle moves the whole pattern so that its bounds begin at 0, 0.
func Settle(f api.Flat) (api.Flat, api.Errno) {
	return Quarter(f, 0)
}

// Quarter turns the whole pattern counterclockwise by quarter turns and settles it.
func Quarter(f api.Flat, turns int) (api.Flat, api.Errno) {
	if e := check(f); e != api.OK {
		return api.Flat{}, e
	}
	if !within(turns, 0, 3) {
		return api.Flat{}, api.ErrArg
	}
	turned := settled(frame{turns: turns}.pattern(f))
	for i, b := range f.Bends {
		if isOrdered(b.Line) {
			turned.Bends[i].Line = inOrder(turned.Bends[i].Line)
		}
	}
	if !inLimits(turned) {
		return api.Flat{}, api.ErrLarge
	}
	return turned, api.OK
}

// Surface returns the area of the region of Rects without that of Cuts.
func Surface(f api.Flat) (int, api.Errno) {
	if e := check(f); e != api.OK {
		return 0, e
	}
	// The union of both lists may have too many rectangles for geom.Area, so it is measured in columns between the vertical lines of all sides.
	all := slices.Concat(f.Rects, f.Cuts)
	lines := verticals(all)
	sum := 0
	for i := range len(lines) - 1 {
		height := covered(all, lines[i]) - covered(f.Cuts, lines[i])
		sum += (lines[i+1] - lines[i]) * height
	}
	return sum, api.OK
}

// check returns the error of a pattern.
func check(f api.Flat) api.Errno {
	if !within(len(f.Rects), 1, api.MaxRects) || len(f.Cuts) > api.MaxRects || len(f.Forms) > api.MaxRects || !inLimits(f) {
		return api.ErrArg
	}
	return api.OK
}

// inLimits reports whether all rectangles are valid and all ends of bend lines lie within MaxTicks.
func inLimits(f api.Flat) bool {
	for _, l := range [][]api.Rect{f.Rects, f.Cuts, f.Forms} {
		for _, r := range l {
			if !geom.ValidRect(r) {
				return false
			}
		}
	}
	for _, b := range f.Bends {
		for _, n := range []int{b.Line.X1, b.Line.Y1, b.Line.X2, b.Line.Y2} {
			if !within(n, -api.MaxTicks, api.MaxTicks) {
				return false
			}
		}
	}
	return true
}

// bounds returns the smallest rectangle that contains all of a list that is not empty.
func bounds(l []api.Rect) api.Rect {
	s := api.Segment{X1: l[0].X, Y1: l[0].Y, X2: l[0].X, Y2: l[0].Y}
	for _, r := range l {
		s = api.Segment{X1: min(s.X1, r.X), Y1: min(s.Y1, r.Y), X2: max(s.X2, r.X+r.W), Y2: max(s.Y2, r.Y+r.H)}
	}
	return api.Rect{X: s.X1, Y: s.Y1, W: s.X2 - s.X1, H: s.Y2 - s.Y1}
}

// settled is Settle, whether the result is in the limits or not.
func settled(f api.Flat) api.Flat {
	b := bounds(f.Rects)
	return frame{x: -b.X, y: -b.Y}.pattern(f)
}

// verticals returns the X of all vertical sides, in strictly ascending order.
func verticals(l []api.Rect) []int {
	var xs []int
	for _, r := range l {
		xs = append(xs, r.X, r.X+r.W)
	}
	slices.Sort(xs)
	return slices.Compact(xs)
}

// covered returns how much of the column that begins on the right of x the rectangles cover.
func covered(l []api.Rect, x int) int {
	var column []api.Rect
	for _, r := range l {
		if r.X <= x && x < r.X+r.W {
			column = append(column, r)
		}
	}
	slices.SortFunc(column, func(a, b api.Rect) int { return cmp.Compare(a.Y, b.Y) })
	sum, top := 0, -api.MaxTicks
	for _, r := range column {
		sum += max(0, r.Y+r.H-max(r.Y, top))
		top = max(top, r.Y+r.H)
	}
	return sum
}
