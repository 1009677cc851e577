package geom

import (
	"slices"

	"sheetmetal/api"
)

// maxSwept is the greatest number of spots that are swept: at two stations they are MaxPoints points.
const maxSwept = api.MaxPoints / 2

// lastStation is the greatest station of a sweep, half a turn.
const lastStation = 6

// Hull returns the corners of the convex hull of l, counterclockwise, beginning with the first point in the order by X and then Y.
func Hull(l []api.Point) ([]api.Point, api.Errno) {
	if e := checkPoints(l); e != api.OK {
		return nil, e
	}
	return hull(l), api.OK
}

// Meets reports whether the convex hull of a has a point in the interior of the convex hull of b.
func Meets(a, b []api.Point) (bool, api.Errno) {
	if e := checkPoints(a, b); e != api.OK {
		return false, e
	}
	first, second := hull(a), hull(b)
	if len(second) < 3 {
		return false, api.ErrShape
	}
	// Convex sets are disjoint if and only if a line separates them, and of two polygons a side of one of them does.
	return !separates(second, first) && !separates(first, second), api.OK
}

// Sweep returns the polygons that are swept when the convex hull of l is turned about the origin from one station to another.
func Sweep(l []api.Spot, from, to int) ([][]api.Point, api.Errno) {
	if len(l) == 0 || len(l) > maxSwept || from < 0 || to > lastStation || from > to {
		return nil, api.ErrArg
	}
	for _, s := range l {
		if !spotWithin(s) {
			return nil, api.ErrArg
		}
	}
	if from == to {
		return [][]api.Point{hull(turnAll(l, from))}, api.OK
	}
	var polygons [][]api.Point
	for k := from; k < to; k++ {
		polygons = append(polygons, hull(append(turnAll(l, k), turnAll(l, k+1)...)))
	}
	return polygons, api.OK
}

// checkPoints returns the error of lists of points whose hulls are taken. The lengths of all lists come before the elements of any.
func checkPoints(lists ...[]api.Point) api.Errno {
	for _, l := range lists {
		if len(l) == 0 || len(l) > api.MaxPoints {
			return api.ErrArg
		}
	}
	for _, l := range lists {
		for _, p := range l {
			if !pointWithin(p) {
				return api.ErrLarge
			}
		}
	}
	return api.OK
}

// hull is Hull for a valid list.
func hull(l []api.Point) []api.Point {
	sorted := sortUnique(l, comparePoints)
	if len(sorted) == 1 {
		return sorted
	}
	lower := chain(sorted)
	slices.Reverse(sorted)
	upper := chain(sorted)
	// Each chain ends with the point with which the other one begins.
	return append(lower[:len(lower)-1], upper[:len(upper)-1]...)
}

// chain returns the points of a sorted list at which the way from its first to its last one turns left, with these two.
func chain(sorted []api.Point) []api.Point {
	var corners []api.Point
	for _, p := range sorted {
		for n := len(corners); n >= 2 && orient(corners[n-2], corners[n-1], p) <= 0; n-- {
			corners = corners[:n-1]
		}
		corners = append(corners, p)
	}
	return corners
}

// separates reports whether the line of a side of the hull a has no point of the hull b on its left, where a lies. A hull with two corners has its line as a side in both directions; one with one corner has no sides.
func separates(a, b []api.Point) bool {
	for i, p := range a {
		next := a[(i+1)%len(a)]
		if next != p && noneLeft(p, next, b) {
			return true
		}
	}
	return false
}

// noneLeft reports whether no point of l lies to the left of the line from p to q.
func noneLeft(p, q api.Point, l []api.Point) bool {
	for _, x := range l {
		if orient(p, q, x) > 0 {
			return false
		}
	}
	return true
}

// turnAll returns the points that the spots become at the station k.
func turnAll(l []api.Spot, k int) []api.Point {
	turned := make([]api.Point, 0, len(l))
	for _, s := range l {
		turned = append(turned, turn(s, k))
	}
	return turned
}
