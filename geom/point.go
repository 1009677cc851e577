package geom

import "sheetmetal/api"

// cosines are the doubled cosines of the multiples of 30 degrees.
var cosines = [12]api.Root{{A: 2}, {B: 1}, {A: 1}, {}, {A: -1}, {B: -1}, {A: -2}, {B: -1}, {A: -1}, {}, {A: 1}, {B: 1}}

// Turn returns the point that s becomes when it is turned counterclockwise about the origin by k times 30 degrees.
func Turn(s api.Spot, k int) (api.Point, api.Errno) {
	if !spotWithin(s) || k < 0 || k >= len(cosines) {
		return api.Point{}, api.ErrArg
	}
	return turn(s, k), api.OK
}

// Orient returns 1 if a, b, c turn counterclockwise, -1 if clockwise, and 0 if they lie on a line.
func Orient(a, b, c api.Point) (int, api.Errno) {
	if !pointWithin(a) || !pointWithin(b) || !pointWithin(c) {
		return 0, api.ErrLarge
	}
	return orient(a, b, c), api.OK
}

// turn is Turn for a valid spot and k.
func turn(s api.Spot, k int) api.Point {
	x, y := api.Root{A: s.X}, api.Root{A: s.Y}
	// The sine of an angle is the cosine of the angle that is 90 degrees, or three steps, smaller.
	cosine, sine := cosines[k], cosines[(k+9)%len(cosines)]
	return api.Point{
		X: minus(times(x, cosine), times(y, sine)),
		Y: plus(times(x, sine), times(y, cosine)),
	}
}

// orient is Orient without its limit.
func orient(a, b, c api.Point) int {
	left := times(minus(b.X, a.X), minus(c.Y, a.Y))
	right := times(minus(b.Y, a.Y), minus(c.X, a.X))
	return sign(minus(left, right))
}

// comparePoints orders points by X and then by Y, as numbers.
func comparePoints(a, b api.Point) int {
	if x := sign(minus(a.X, b.X)); x != 0 {
		return x
	}
	return sign(minus(a.Y, b.Y))
}

func spotWithin(s api.Spot) bool {
	return within(s.X, api.MaxCoord) && within(s.Y, api.MaxCoord)
}

func pointWithin(p api.Point) bool {
	return rootWithin(p.X, api.MaxFactor) && rootWithin(p.Y, api.MaxFactor)
}
