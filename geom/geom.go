// Package geom is layer 1: exact numbers with the square root of 3, convex hulls, swept polygons, and unions of rectangles. See shared/doc/01-geom.md.
package geom

import "slices"

// sortUnique returns the elements in ascending order, of equal ones only one. The list itself stays as it is.
func sortUnique[T comparable](l []T, order func(a, b T) int) []T {
	sorted := slices.Clone(l)
	slices.SortFunc(sorted, order)
	return slices.Compact(sorted)
}

// within reports whether n is from -limit to limit.
func within(n, limit int) bool {
	return -limit <= n && n <= limit
}
