package shop

import (
	"slices"

	"sheetmetal/api"
	"sheetmetal/nest"
)

// phase tells how far the work on a sheet is.
type phase int

// The phases of a sheet. Once all of its items are done it is bare again.
const (
	bare    phase = iota // nothing is nested on it
	planned              // pieces are nested on it, and nothing is cut
	begun                // it is in progress
)

// sheet is a sheet in stock. Its layout is kept piece by piece, because a drawing may change while the layout may not; its cutting order is not kept, because it follows from the layout.
type sheet struct {
	api.Sheet
	nested []nested // in the order in which they were nested
	done   int      // how many items of the cutting order have been done
}

// nested is a piece of a layout: its number, and what is cut for it, at its place.
type nested struct {
	number int
	placed api.Piece
}

func (x *sheet) phase() phase {
	switch {
	case len(x.nested) == 0:
		return bare
	case x.done == 0:
		return planned
	}
	return begun
}

// layout returns the layout of the sheet. It shares the memory of the sheet.
func (x *sheet) layout() api.Layout {
	l := api.Layout{Sheet: x.Sheet}
	for _, n := range x.nested {
		l.Pieces = append(l.Pieces, n.placed)
	}
	return l
}

// taken returns the rectangles of each piece on the sheet.
func (x *sheet) taken() [][]api.Rect {
	var l [][]api.Rect
	for _, n := range x.nested {
		l = append(l, n.placed.Rects)
	}
	return l
}

// has reports whether a piece is in the layout of the sheet.
func (x *sheet) has(number int) bool {
	return slices.ContainsFunc(x.nested, func(n nested) bool { return n.number == number })
}

// fit returns what is cut for a piece at its place on the sheet, or false if the sheet has none for it.
func (x *sheet) fit(blank api.Piece, set api.Settings) (api.Piece, bool) {
	if x.phase() == begun || len(x.nested) >= api.MaxPieces {
		return api.Piece{}, false
	}
	at, found, e := nest.Fit(x.Sheet, x.taken(), blank, set)
	if e != api.OK || !found {
		return api.Piece{}, false
	}
	placed, e := nest.Put(blank, at)
	return placed, e == api.OK
}
