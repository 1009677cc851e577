package nest

import (
	"cmp"
	"slices"

	"sheetmetal/api"
)

// Fit returns the first placement of a piece on a sheet that is clear of each list of taken.
func Fit(s api.Sheet, taken [][]api.Rect, x api.Piece, set api.Settings) (api.Placement, bool, api.Errno) {
	if e := ValidateSheet(s); e != api.OK {
		return api.Placement{}, false, e
	}
	if e := checkTaken(taken); e != api.OK {
		return api.Placement{}, false, e
	}
	if e := ValidatePiece(x); e != api.OK {
		return api.Placement{}, false, e
	}
	if !ValidSettings(set) {
		return api.Placement{}, false, api.ErrArg
	}
	at, found := fit(s, taken, x, set)
	return at, found, api.OK
}

// checkTaken returns the error of the rectangles of placed pieces.
func checkTaken(taken [][]api.Rect) api.Errno {
	if len(taken) > api.MaxPieces {
		return api.ErrLarge
	}
	for _, l := range taken {
		if len(l) > maxElements {
			return api.ErrLarge
		}
	}
	if !validRects(taken...) {
		return api.ErrArg
	}
	return api.OK
}

// firstPlaces has, for each turn of a piece, the first place at which the piece may lie.
type firstPlaces [4]api.Spot

// compare returns the order of two turns by their places, and of those at the same place by their numbers.
func (l *firstPlaces) compare(a, b int) int {
	return cmp.Or(cmp.Compare(l[a].Y, l[b].Y), cmp.Compare(l[a].X, l[b].X), cmp.Compare(a, b))
}

// fit is Fit for valid arguments.
func fit(s api.Sheet, taken [][]api.Rect, x api.Piece, set api.Settings) (api.Placement, bool) {
	var places firstPlaces
	var turns []int
	for turn := range places {
		if !Allowed(x, s, turn) {
			continue
		}
		turned, e := Put(x, api.Placement{Turn: turn})
		if e != api.OK {
			continue
		}
		if at, found := fieldOf(s, taken, turned.Rects, set).first(); found {
			places[turn] = at
			turns = append(turns, turn)
		}
	}
	if len(turns) == 0 {
		return api.Placement{}, false
	}
	slices.SortFunc(turns, places.compare)
	first := places[turns[0]]
	return api.Placement{X: first.X, Y: first.Y, Turn: turns[0]}, true
}

// bar is a block of places, with all its sides, at which a piece may not lie.
type bar struct {
	left, right, bottom, top int
}

// field is the block of places, with all its sides, at which a piece lies on a sheet without its margin, and the bars in it, in ascending order of their left sides.
type field struct {
	bar
	closed []bar
}

// fieldOf returns the field of a piece with rectangles that begin at 0, 0.
func fieldOf(s api.Sheet, taken [][]api.Rect, l []api.Rect, set api.Settings) field {
	inner := withoutMargin(s, set.Margin)
	f := field{bar: bar{left: inner.X, right: inner.X + inner.W, bottom: inner.Y, top: inner.Y + inner.H}}
	for _, r := range l {
		f.right = min(f.right, inner.X+inner.W-r.X-r.W)
		f.top = min(f.top, inner.Y+inner.H-r.Y-r.H)
	}
	blocked, near := blocks(s), slices.Concat(taken...)
	for _, r := range l {
		for _, other := range blocked {
			f.closeBars(around(r, other, 0))
		}
		for _, other := range near {
			f.closeBars(unclear(r, other, set)...)
		}
	}
	slices.SortFunc(f.closed, func(a, b bar) int { return cmp.Compare(a.left, b.left) })
	return f
}

// closeBars adds the bars of which some place is in the field.
func (f *field) closeBars(l ...bar) {
	for _, b := range l {
		if max(b.left, f.left) <= min(b.right, f.right) && max(b.bottom, f.bottom) <= min(b.top, f.top) {
			f.closed = append(f.closed, b)
		}
	}
}

// around returns the places at which r overlaps another rectangle that is larger by gap on all sides.
func around(r, other api.Rect, gap int) bar {
	return bar{
		left:   other.X - gap - r.X - r.W + 1,
		right:  other.X + other.W + gap - r.X - 1,
		bottom: other.Y - gap - r.Y - r.H + 1,
		top:    other.Y + other.H + gap - r.Y - 1,
	}
}

// unclear returns the places at which r is not clear of another rectangle.
func unclear(r, other api.Rect, set api.Settings) []bar {
	near := around(r, other, set.Gap)
	if !set.Common {
		return []bar{near}
	}
	// The places at which the two touch are a frame of width 1 about those at which they overlap. With a small gap nothing is beyond it, and these bars are empty.
	over := around(r, other, 0)
	frame := around(r, other, 1)
	return []bar{
		over,
		{left: near.left, right: near.right, bottom: near.bottom, top: frame.bottom - 1},
		{left: near.left, right: near.right, bottom: frame.top + 1, top: near.top},
		{left: near.left, right: frame.left - 1, bottom: frame.bottom, top: frame.top},
		{left: frame.right + 1, right: near.right, bottom: frame.bottom, top: frame.top},
	}
}

// first returns the first place of the field that is in no bar.
func (f field) first() (api.Spot, bool) {
	for _, y := range f.rows() {
		if x := f.firstOfRow(y); x <= f.right {
			return api.Spot{X: x, Y: y}, true
		}
	}
	return api.Spot{}, false
}

// rows returns the Y that the first place may have, in ascending order. The place below it is in a bar or out of the field.
func (f field) rows() []int {
	l := []int{f.bottom}
	for _, b := range f.closed {
		l = append(l, b.top+1)
	}
	slices.Sort(l)
	l = slices.Compact(l)
	return slices.DeleteFunc(l, func(y int) bool { return !within(y, f.bottom, f.top) })
}

// firstOfRow returns the smallest X from the left side of the field on that is in no bar at this Y. It may be beyond the right side.
func (f field) firstOfRow(y int) int {
	x := f.left
	for _, b := range f.closed {
		if b.left > x {
			break
		}
		if within(y, b.bottom, b.top) {
			x = max(x, b.right+1)
		}
	}
	return x
}
