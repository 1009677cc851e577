package cut

import (
	"sheetmetal/api"
	"sheetmetal/copies"
	"sheetmetal/geom"
	"sheetmetal/nest"
)

// LayoutOf returns the layout of a sheet: the pieces that are placed on it, at their places.
func LayoutOf(sheets []api.Sheet, pieces []api.Piece, set api.Settings, l []api.Placement, sheet int) (api.Layout, api.Errno) {
	if _, e := nest.Check(sheets, pieces, set, l); e != api.OK {
		return api.Layout{}, e
	}
	if !within(sheet, 0, len(sheets)-1) {
		return api.Layout{}, api.ErrNone
	}
	result := api.Layout{Sheet: copies.Sheet(sheets[sheet])}
	for _, at := range l {
		if at.Sheet != sheet {
			continue
		}
		x, e := nest.Put(pieces[at.Piece], at)
		if e != api.OK {
			return api.Layout{}, e
		}
		result.Pieces = append(result.Pieces, x)
	}
	return result, api.OK
}

// Validate returns the error of a layout.
func Validate(l api.Layout) api.Errno {
	if e := nest.ValidateSheet(l.Sheet); e != api.OK {
		return e
	}
	if len(l.Pieces) > api.MaxPieces {
		return api.ErrLarge
	}
	for _, x := range l.Pieces {
		if e := validatePlaced(x); e != api.OK {
			return e
		}
	}
	for _, x := range l.Pieces {
		if !isOnSheet(x.Rects, l.Sheet) {
			return api.ErrFit
		}
	}
	for i, x := range l.Pieces {
		for _, y := range l.Pieces[:i] {
			if anyOverlap(x.Rects, y.Rects) {
				return api.ErrOverlap
			}
		}
	}
	return api.OK
}

// validatePlaced returns the error of a piece at a place.
func validatePlaced(x api.Piece) api.Errno {
	for _, r := range x.Rects {
		// Such a rectangle may have no smallest X or Y to which the piece could be moved.
		if !geom.ValidRect(r) {
			return api.ErrArg
		}
	}
	around, _ := frame(x.Rects)
	x.Rects, x.Cuts, x.Forms = relative(x.Rects, around), relative(x.Cuts, around), relative(x.Forms, around)
	return nest.ValidatePiece(x)
}

// relative returns the rectangles as seen from the lower left corner of another one. A rectangle that is far out of the range of coordinates stays far out of it, even if its numbers wrap.
func relative(l []api.Rect, around api.Rect) []api.Rect {
	var result []api.Rect
	for _, r := range l {
		result = append(result, api.Rect{X: r.X - around.X, Y: r.Y - around.Y, W: r.W, H: r.H})
	}
	return result
}

// isOnSheet reports whether the rectangles are inside of a sheet and overlap neither a clamp nor what is used.
func isOnSheet(l []api.Rect, s api.Sheet) bool {
	for _, r := range l {
		if !geom.Inside(r, api.Rect{W: s.Width, H: s.Height}) {
			return false
		}
	}
	return !anyOverlap(l, s.Clamps) && !anyOverlap(l, s.Used)
}

// anyOverlap reports whether a rectangle of a overlaps one of b: those that do not are clear of one another without a gap.
func anyOverlap(a, b []api.Rect) bool {
	return !nest.Clear(a, b, api.Settings{})
}

func within(n, low, high int) bool {
	return low <= n && n <= high
}
