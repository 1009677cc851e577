package program

import (
	"slices"

	"sheetmetal/api"
	"sheetmetal/cut"
)

// CheckCut reports whether a program cuts the layout from its sheet.
func CheckCut(l api.Layout, ops []api.Op) (bool, api.Errno) {
	if e := cut.Validate(l); e != api.OK {
		return false, e
	}
	made, e := RunCut(l.Sheet, ops)
	if e != api.OK || !slices.Equal(made.Stamps, formsOf(l)) {
		return false, api.OK
	}
	parts, e := Separate(l.Sheet, made.Lines)
	if e != api.OK {
		return false, api.OK
	}
	for _, x := range l.Pieces {
		if !isMade(parts, x) {
			return false, api.OK
		}
	}
	return true, api.OK
}

// isMade reports whether one of the parts of a sheet is a piece without its holes, and each hole is one, too.
func isMade(parts [][]api.Rect, x api.Piece) bool {
	if !anyIs(parts, x.Rects, x.Cuts) {
		return false
	}
	for _, r := range x.Cuts {
		if !anyIs(parts, []api.Rect{r}, nil) {
			return false
		}
	}
	return true
}

// anyIs reports whether one of the parts has the region of rects without that of cuts, which lies in it. No two elements of a list overlap.
func anyIs(parts [][]api.Rect, rects, cuts []api.Rect) bool {
	want := area(rects) - area(cuts)
	for _, l := range parts {
		// Two regions are the same if each of them has its whole area in common with the other.
		if area(l) == want && commonArea(l, rects)-commonArea(l, cuts) == want {
			return true
		}
	}
	return false
}

// area returns the area of rectangles of which no two overlap. There may be more of them than geom.Area takes.
func area(l []api.Rect) int {
	sum := 0
	for _, r := range l {
		sum += r.W * r.H
	}
	return sum
}

// commonArea returns the area that the regions of two lists have in common, if no two elements of a list overlap.
func commonArea(a, b []api.Rect) int {
	sum := 0
	for _, r := range a {
		for _, other := range b {
			w := min(r.X+r.W, other.X+other.W) - max(r.X, other.X)
			h := min(r.Y+r.H, other.Y+other.H) - max(r.Y, other.Y)
			sum += max(0, w) * max(0, h)
		}
	}
	return sum
}
