package geom

import (
	"cmp"
	"slices"

	"sheetmetal/api"
)

// Area returns the area of the region of l.
func Area(l []api.Rect) (int, api.Errno) {
	if e := checkRects(l); e != api.OK {
		return 0, e
	}
	g := newGrid(l)
	g.fill(l)
	return g.area(), api.OK
}

// SameRegion reports whether the regions of a and b are the same.
func SameRegion(a, b []api.Rect) (bool, api.Errno) {
	if e := checkRects(a, b); e != api.OK {
		return false, e
	}
	first, second := newGrid(a, b), newGrid(a, b)
	first.fill(a)
	second.fill(b)
	return first.sameCells(second), api.OK
}

// Outline returns the border of the region of l: first the horizontal segments, then the vertical ones.
func Outline(l []api.Rect) ([]api.Segment, api.Errno) {
	if e := checkRects(l); e != api.OK {
		return nil, e
	}
	g := newGrid(l)
	g.fill(l)
	return append(g.horizontal(), g.vertical()...), api.OK
}

// checkRects returns the error of lists of rectangles. The lengths of all lists come before the elements of any.
func checkRects(lists ...[]api.Rect) api.Errno {
	for _, l := range lists {
		if len(l) > api.MaxRects {
			return api.ErrLarge
		}
	}
	for _, l := range lists {
		for _, r := range l {
			if !ValidRect(r) {
				return api.ErrArg
			}
		}
	}
	return api.OK
}

// grid divides the plane by lines at xs and ys. The cell i, j lies between the lines i and i + 1 of xs and j and j + 1 of ys, or after the last line; it is filled or empty as a whole.
type grid struct {
	xs, ys []int
	filled [][]bool
}

// newGrid returns the empty grid with the lines of all sides of the rectangles.
func newGrid(lists ...[]api.Rect) grid {
	var xs, ys []int
	for _, l := range lists {
		for _, r := range l {
			xs = append(xs, r.X, r.X+r.W)
			ys = append(ys, r.Y, r.Y+r.H)
		}
	}
	g := grid{xs: sortUnique(xs, cmp.Compare[int]), ys: sortUnique(ys, cmp.Compare[int])}
	for range g.xs {
		g.filled = append(g.filled, make([]bool, len(g.ys)))
	}
	return g
}

// fill fills the cells of the rectangles, whose sides are lines of the grid.
func (g grid) fill(l []api.Rect) {
	for _, r := range l {
		left, right := position(g.xs, r.X), position(g.xs, r.X+r.W)
		low, high := position(g.ys, r.Y), position(g.ys, r.Y+r.H)
		for i := left; i < right; i++ {
			for j := low; j < high; j++ {
				g.filled[i][j] = true
			}
		}
	}
}

// position returns the index of n in a sorted list that has it.
func position(sorted []int, n int) int {
	i, _ := slices.BinarySearch(sorted, n)
	return i
}

// at reports whether the cell i, j is filled. Those before the first line of the grid have the index -1 and are empty, as are those after the last one.
func (g grid) at(i, j int) bool {
	return i >= 0 && j >= 0 && g.filled[i][j]
}

func (g grid) area() int {
	sum := 0
	for i := range len(g.xs) - 1 {
		for j := range len(g.ys) - 1 {
			if g.filled[i][j] {
				sum += (g.xs[i+1] - g.xs[i]) * (g.ys[j+1] - g.ys[j])
			}
		}
	}
	return sum
}

// sameCells reports whether two grids with the same lines have the same cells filled.
func (g grid) sameCells(other grid) bool {
	for i, column := range g.filled {
		if !slices.Equal(column, other.filled[i]) {
			return false
		}
	}
	return true
}

// horizontal returns the horizontal segments of the border.
func (g grid) horizontal() []api.Segment {
	var l []api.Segment
	for j, y := range g.ys {
		for _, s := range spans(g.xs, func(i int) int { return side(g.at(i, j-1), g.at(i, j)) }) {
			l = append(l, api.Segment{X1: s.from, Y1: y, X2: s.to, Y2: y})
		}
	}
	return l
}

// vertical returns the vertical segments of the border.
func (g grid) vertical() []api.Segment {
	var l []api.Segment
	for i, x := range g.xs {
		for _, s := range spans(g.ys, func(j int) int { return side(g.at(i-1, j), g.at(i, j)) }) {
			l = append(l, api.Segment{X1: x, Y1: s.from, X2: x, Y2: s.to})
		}
	}
	return l
}

// side tells where a line between two cells has the interior of the region on one side only: -1 before it, 1 after it; otherwise it returns 0.
func side(before, after bool) int {
	switch {
	case before == after:
		return 0
	case after:
		return 1
	}
	return -1
}

// span is a part of a line of the grid.
type span struct {
	from, to int
}

// spans returns the longest parts of a line, cut at marks, that have the interior on the same side.
func spans(marks []int, sideOf func(i int) int) []span {
	var l []span
	last := 0
	for i := range len(marks) - 1 {
		now := sideOf(i)
		switch {
		case now == 0:
		case now == last:
			l[len(l)-1].to = marks[i+1]
		default:
			l = append(l, span{from: marks[i], to: marks[i+1]})
		}
		last = now
	}
	return l
}
