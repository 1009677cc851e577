package nest

import (
	"sheetmetal/api"
	"sheetmetal/flat"
	"sheetmetal/geom"
)

// PieceOf returns the piece that is cut for a part.
func PieceOf(p api.Part, t api.BendTable) (api.Piece, api.Errno) {
	f, e := flat.Unfold(p, t)
	if e != api.OK {
		return api.Piece{}, e
	}
	f, e = flat.Settle(f)
	if e != api.OK {
		return api.Piece{}, e
	}
	return api.Piece{Name: p.Name, Material: p.Material, Gauge: p.Gauge, Grain: p.Grain, Rects: f.Rects, Cuts: f.Cuts, Forms: f.Forms}, api.OK
}

// Put returns the piece at a placement.
func Put(x api.Piece, at api.Placement) (api.Piece, api.Errno) {
	if e := ValidatePiece(x); e != api.OK {
		return api.Piece{}, e
	}
	f, e := flat.Quarter(api.Flat{Rects: x.Rects, Cuts: x.Cuts, Forms: x.Forms}, at.Turn)
	if e != api.OK {
		return api.Piece{}, e
	}
	// X and Y are known to be small before they are added: the sum of any two numbers may wrap.
	if !within(at.X, -api.MaxTicks, api.MaxTicks) || !within(at.Y, -api.MaxTicks, api.MaxTicks) {
		return api.Piece{}, api.ErrLarge
	}
	x.Rects, x.Cuts, x.Forms = moved(f.Rects, at), moved(f.Cuts, at), moved(f.Forms, at)
	if !validRects(x.Rects, x.Cuts, x.Forms) {
		return api.Piece{}, api.ErrLarge
	}
	return x, api.OK
}

// moved returns the rectangles, moved by the X and Y of a placement.
func moved(l []api.Rect, at api.Placement) []api.Rect {
	var result []api.Rect
	for _, r := range l {
		result = append(result, api.Rect{X: r.X + at.X, Y: r.Y + at.Y, W: r.W, H: r.H})
	}
	return result
}

// Allowed reports whether a piece may be cut from a sheet with a number of quarter turns.
func Allowed(x api.Piece, s api.Sheet, turn int) bool {
	return x.Material == s.Material && x.Gauge == s.Gauge && within(turn, 0, 3) && grainFits(x.Grain, s.Grain, turn)
}

// grainFits reports whether the grain of a piece that is turned follows that of a sheet.
func grainFits(piece, sheet, turn int) bool {
	if piece == api.AnyGrain || sheet == api.AnyGrain {
		return true
	}
	return (piece == sheet) == (turn%2 == 0)
}

// Clear reports whether the rectangles of a and b keep the distance that the settings ask for.
func Clear(a, b []api.Rect, set api.Settings) bool {
	for _, r := range a {
		for _, other := range b {
			d := geom.Distance(r, other)
			if geom.Overlap(r, other) || d < set.Gap && !(set.Common && d == 0) {
				return false
			}
		}
	}
	return true
}

// liesWell reports whether a piece, which has been put at its place with a number of turns, lies well on a sheet.
func liesWell(x api.Piece, s api.Sheet, turn int, set api.Settings) bool {
	return Allowed(x, s, turn) && allInside(x.Rects, withoutMargin(s, set.Margin)) && !anyOverlap(x.Rects, blocks(s))
}

// withoutMargin returns the rectangle of a sheet without its margin. It is not valid if the margin leaves nothing.
func withoutMargin(s api.Sheet, margin int) api.Rect {
	return api.Rect{X: margin, Y: margin, W: s.Width - 2*margin, H: s.Height - 2*margin}
}

// anyOverlap reports whether a rectangle of a overlaps one of b.
func anyOverlap(a, b []api.Rect) bool {
	for _, r := range a {
		for _, other := range b {
			if geom.Overlap(r, other) {
				return true
			}
		}
	}
	return false
}
