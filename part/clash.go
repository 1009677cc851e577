package part

import "sheetmetal/api"

// box is a rectangle in space as intervals from low to high along the axes; along the axis of its normal, the interval is one number.
type box struct {
	low, high [3]int
	normal    int
}

// Clash reports whether two faces lie in planes that are not parallel and have a common point that lies strictly inside of both.
func Clash(a, b api.Face) bool {
	first, firstValid := boxOf(a)
	second, secondValid := boxOf(b)
	if !firstValid || !secondValid || first.normal == second.normal {
		return false
	}
	// Along each axis at most one of the intervals is a single number. It must lie strictly within the other one, and two proper intervals must have a common inner number: the same two comparisons decide both.
	for i := range 3 {
		if first.low[i] >= second.high[i] || second.low[i] >= first.high[i] {
			return false
		}
	}
	return true
}

// boxOf returns the box of a face; false if the face is not one that Clash examines.
func boxOf(f api.Face) (box, bool) {
	u, uValid := axisOf(f.U)
	v, vValid := axisOf(f.V)
	if !uValid || !vValid || u == v || !within(f.W, 1, api.MaxTicks) || !within(f.H, 1, api.MaxTicks) || !originWithin(f.Origin) {
		return box{}, false
	}
	// The three axes have the numbers 0, 1 and 2.
	b := box{normal: 3 - u - v}
	corners := Corners(f)
	from, to := numbersOf(corners[0]), numbersOf(corners[2])
	for i := range 3 {
		b.low[i], b.high[i] = min(from[i], to[i]), max(from[i], to[i])
	}
	return b, true
}

// axisOf returns the axis along which v is a unit vector; false if there is none.
func axisOf(v api.Vec) (int, bool) {
	switch v {
	case api.Vec{X: 1}, api.Vec{X: -1}:
		return 0, true
	case api.Vec{Y: 1}, api.Vec{Y: -1}:
		return 1, true
	case api.Vec{Z: 1}, api.Vec{Z: -1}:
		return 2, true
	}
	return 0, false
}

func originWithin(v api.Vec) bool {
	for _, n := range numbersOf(v) {
		if !within(n, -api.MaxTicks, api.MaxTicks) {
			return false
		}
	}
	return true
}

func numbersOf(v api.Vec) [3]int {
	return [3]int{v.X, v.Y, v.Z}
}
