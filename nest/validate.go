package nest

import (
	"sheetmetal/api"
	"sheetmetal/geom"
	"sheetmetal/part"
)

// maxElements is the greatest length of each list of rectangles of a piece.
const maxElements = 12

// ValidateSheet returns the error of a sheet.
func ValidateSheet(s api.Sheet) api.Errno {
	switch {
	case !part.ValidName(s.Name) || !part.ValidName(s.Material):
		return api.ErrName
	case !validKind(s.Gauge, s.Grain) || !within(s.Width, 1, api.MaxTicks) || !within(s.Height, 1, api.MaxTicks):
		return api.ErrArg
	case len(s.Clamps) > api.MaxClamps || len(s.Used) > api.MaxRects:
		return api.ErrLarge
	}
	return checkOnSheet(s, blocks(s))
}

// ValidatePiece returns the error of a piece.
func ValidatePiece(x api.Piece) api.Errno {
	switch {
	case !part.ValidName(x.Name) || !part.ValidName(x.Material):
		return api.ErrName
	case !validKind(x.Gauge, x.Grain):
		return api.ErrArg
	case len(x.Rects) > maxElements || len(x.Cuts) > maxElements || len(x.Forms) > maxElements:
		return api.ErrLarge
	case len(x.Rects) == 0 || !validRects(x.Rects, x.Cuts, x.Forms) || !beginsAtOrigin(x.Rects):
		return api.ErrArg
	case anyPair(x.Rects, geom.Overlap):
		return api.ErrOverlap
	case !isConnected(x.Rects):
		return api.ErrShape
	case !holesFit(x):
		return api.ErrFit
	case anyPair(join(x.Cuts, x.Forms), touch):
		return api.ErrOverlap
	}
	return api.OK
}

// ValidSettings reports whether the gap and the margin are in their range.
func ValidSettings(set api.Settings) bool {
	return within(set.Gap, 0, api.MaxGap*api.Scale) && within(set.Margin, 0, api.MaxGap*api.Scale)
}

// check returns the error of sheets, pieces and settings.
func check(sheets []api.Sheet, pieces []api.Piece, set api.Settings) api.Errno {
	if e := checkLists(sheets, pieces); e != api.OK {
		return e
	}
	if !ValidSettings(set) {
		return api.ErrArg
	}
	return api.OK
}

// checkLists returns the error of sheets and pieces.
func checkLists(sheets []api.Sheet, pieces []api.Piece) api.Errno {
	if len(sheets) > api.MaxSheets || len(pieces) > api.MaxPieces {
		return api.ErrLarge
	}
	for _, s := range sheets {
		if e := ValidateSheet(s); e != api.OK {
			return e
		}
	}
	for _, x := range pieces {
		if e := ValidatePiece(x); e != api.OK {
			return e
		}
	}
	return api.OK
}

func validKind(gauge, grain int) bool {
	return within(gauge, 1, api.MaxGauge) && within(grain, api.AnyGrain, api.GrainY)
}

// validRects reports whether all rectangles are valid.
func validRects(lists ...[]api.Rect) bool {
	for _, l := range lists {
		for _, r := range l {
			if !geom.ValidRect(r) {
				return false
			}
		}
	}
	return true
}

// checkOnSheet returns the error of rectangles that must be inside of a sheet.
func checkOnSheet(s api.Sheet, l []api.Rect) api.Errno {
	if !validRects(l) {
		return api.ErrArg
	}
	if !allInside(l, whole(s)) {
		return api.ErrFit
	}
	return api.OK
}

// whole returns the rectangle of a sheet.
func whole(s api.Sheet) api.Rect {
	return api.Rect{W: s.Width, H: s.Height}
}

// blocks returns the clamps and the used rectangles of a sheet.
func blocks(s api.Sheet) []api.Rect {
	return join(s.Clamps, s.Used)
}

// allInside reports whether each rectangle is inside of another one.
func allInside(l []api.Rect, other api.Rect) bool {
	for _, r := range l {
		if !geom.Inside(r, other) {
			return false
		}
	}
	return true
}

// beginsAtOrigin reports whether the smallest X and the smallest Y of a list that is not empty are 0.
func beginsAtOrigin(l []api.Rect) bool {
	x, y := l[0].X, l[0].Y
	for _, r := range l {
		x, y = min(x, r.X), min(y, r.Y)
	}
	return x == 0 && y == 0
}

// isConnected reports whether each rectangle of a list that is not empty is reached from the first one by neighbors.
func isConnected(l []api.Rect) bool {
	reached := make([]bool, len(l))
	reached[0] = true
	work := []int{0}
	for len(work) > 0 {
		i := work[len(work)-1]
		work = work[:len(work)-1]
		for j := range l {
			if !reached[j] && neighbors(l[i], l[j]) {
				reached[j] = true
				work = append(work, j)
			}
		}
	}
	for _, r := range reached {
		if !r {
			return false
		}
	}
	return true
}

// neighbors reports whether two rectangles that do not overlap touch along a line.
func neighbors(a, b api.Rect) bool {
	_, found := commonPart(corners(a), corners(b))
	return found
}

// holesFit reports whether each hole of a piece lies in one of its faces, and none that is cut is too narrow.
func holesFit(x api.Piece) bool {
	for _, r := range x.Cuts {
		// A cut of width 1 has no spot strictly inside at which it could begin.
		if r.W == 1 || r.H == 1 || !isStrictlyInside(r, x.Rects) {
			return false
		}
	}
	for _, r := range x.Forms {
		if !isStrictlyInside(r, x.Rects) {
			return false
		}
	}
	return true
}

// isStrictlyInside reports whether a rectangle is inside of one of l, at least 1 away from each of its sides.
func isStrictlyInside(r api.Rect, l []api.Rect) bool {
	for _, other := range l {
		if geom.Inside(r, api.Rect{X: other.X + 1, Y: other.Y + 1, W: other.W - 2, H: other.H - 2}) {
			return true
		}
	}
	return false
}

func touch(a, b api.Rect) bool {
	return geom.Distance(a, b) == 0
}

// anyPair reports whether bad holds for two elements of l.
func anyPair(l []api.Rect, bad func(a, b api.Rect) bool) bool {
	for i, b := range l {
		for _, a := range l[:i] {
			if bad(a, b) {
				return true
			}
		}
	}
	return false
}

// join returns a new list with the elements of a and then those of b.
func join(a, b []api.Rect) []api.Rect {
	l := make([]api.Rect, len(a)+len(b))
	copy(l, a)
	copy(l[len(a):], b)
	return l
}
