package cut

import (
	"sheetmetal/api"
	"sheetmetal/geom"
)

// Small reports whether a piece is so narrow that it needs a micro joint.
func Small(x api.Piece) bool {
	r, found := frame(x.Rects)
	return !found || min(r.W, r.H) < api.MinSide*api.Scale
}

// InRegion reports whether a spot is in the interior of the region of l.
func InRegion(l []api.Rect, s api.Spot) bool {
	// Beyond the range of coordinates, where the numbers may wrap, a square is not valid and lies in nothing.
	for x := range 2 {
		for y := range 2 {
			if !isCovered(api.Rect{X: s.X - x, Y: s.Y - y, W: 1, H: 1}, l) {
				return false
			}
		}
	}
	return true
}

// isCovered reports whether a square of side 1 lies in a rectangle of l.
func isCovered(square api.Rect, l []api.Rect) bool {
	for _, r := range l {
		if geom.Inside(square, r) {
			return true
		}
	}
	return false
}

// frame returns the smallest rectangle that contains the valid ones of l, or false if there are none.
func frame(l []api.Rect) (api.Rect, bool) {
	var result api.Rect
	found := false
	for _, r := range l {
		switch {
		case !geom.ValidRect(r):
		case !found:
			result, found = r, true
		default:
			result = joined(result, r)
		}
	}
	return result, found
}

// joined returns the smallest rectangle that contains two.
func joined(a, b api.Rect) api.Rect {
	x, y := min(a.X, b.X), min(a.Y, b.Y)
	return api.Rect{X: x, Y: y, W: max(a.X+a.W, b.X+b.W) - x, H: max(a.Y+a.H, b.Y+b.H) - y}
}
