package nest

import (
	"slices"

	"sheetmetal/api"
	"sheetmetal/flat"
	"sheetmetal/geom"
)

// Free returns the area of a sheet that is neither under a clamp nor used.
func Free(s api.Sheet) (int, api.Errno) {
	if e := ValidateSheet(s); e != api.OK {
		return 0, e
	}
	// The clamps and the used rectangles together may be too many for one list. What lies under clamps alone is 0 if there are none.
	unused, _ := flat.Surface(api.Flat{Rects: []api.Rect{whole(s)}, Cuts: s.Used})
	underClamps, _ := flat.Surface(api.Flat{Rects: s.Clamps, Cuts: s.Used})
	return unused - underClamps, api.OK
}

// Exceeds reports whether the pieces have more area than is free on the sheets.
func Exceeds(sheets []api.Sheet, pieces []api.Piece) (bool, api.Errno) {
	if e := checkLists(sheets, pieces); e != api.OK {
		return false, e
	}
	left := 0
	for _, s := range sheets {
		n, _ := Free(s)
		left += n
	}
	for _, x := range pieces {
		n, _ := geom.Area(x.Rects)
		left -= n
	}
	return left < 0, api.OK
}

// Remnant returns the sheet after the rectangles of l have been used.
func Remnant(s api.Sheet, l []api.Rect) (api.Sheet, api.Errno) {
	if e := ValidateSheet(s); e != api.OK {
		return api.Sheet{}, e
	}
	if len(s.Used)+len(l) > api.MaxRects {
		return api.Sheet{}, api.ErrLarge
	}
	if e := checkOnSheet(s, l); e != api.OK {
		return api.Sheet{}, e
	}
	if anyOverlap(l, blocks(s)) || anyPair(l, geom.Overlap) {
		return api.Sheet{}, api.ErrOverlap
	}
	s.Clamps, s.Used = slices.Clone(s.Clamps), join(s.Used, l)
	return s, api.OK
}
