package program

import (
	"slices"

	"sheetmetal/api"
	"sheetmetal/nest"
)

const (
	maxLines = 200  // lines that separate a sheet
	maxCells = 6000 // rectangles of all parts together
)

// Separate returns the parts into which lines separate a sheet.
func Separate(s api.Sheet, lines []api.Segment) ([][]api.Rect, api.Errno) {
	if e := nest.ValidateSheet(s); e != api.OK {
		return nil, e
	}
	if len(lines) > maxLines {
		return nil, api.ErrLarge
	}
	for _, l := range lines {
		if !isLine(l) || !isOnSheet(s, l.X1, l.Y1) || !isOnSheet(s, l.X2, l.Y2) {
			return nil, api.ErrArg
		}
	}
	g := newGrid(s, lines)
	if g.columns()*g.rows() > maxCells {
		return nil, api.ErrLarge
	}
	g.separate(lines)
	return g.parts(), api.OK
}

// grid is a sheet that is divided into cells by whole lines at xs and ys, among them its borders. The cell i, j lies between the lines i and i + 1 of xs and j and j + 1 of ys.
type grid struct {
	xs, ys      []int
	left, below [][]bool // by i and j: whether a line lies on the left side of the cell, and below it
}

// cell is the place of a cell in a grid.
type cell struct {
	i, j int
}

// newGrid returns the grid of a sheet whose lines go through the ends of all lines.
func newGrid(s api.Sheet, lines []api.Segment) grid {
	g := grid{xs: []int{0, s.Width}, ys: []int{0, s.Height}}
	for _, l := range lines {
		g.xs = append(g.xs, l.X1, l.X2)
		g.ys = append(g.ys, l.Y1, l.Y2)
	}
	g.xs, g.ys = sortUnique(g.xs), sortUnique(g.ys)
	return g
}

func (g grid) columns() int {
	return len(g.xs) - 1
}

func (g grid) rows() int {
	return len(g.ys) - 1
}

// separate keeps on which sides of the cells the lines lie.
func (g *grid) separate(lines []api.Segment) {
	g.left, g.below = squares[bool](g.xs, g.ys), squares[bool](g.xs, g.ys)
	for _, l := range lines {
		i, j := position(g.xs, l.X1), position(g.ys, l.Y1)
		// A line ends at lines of the grid, so it covers a side of a cell as a whole or not at all.
		for k := i; g.xs[k] < l.X2; k++ {
			g.below[k][j] = true
		}
		for k := j; g.ys[k] < l.Y2; k++ {
			g.left[i][k] = true
		}
	}
}

// parts returns the rectangles of the cells, by parts.
func (g grid) parts() [][]api.Rect {
	var l [][]api.Rect
	number := squares[int](g.xs, g.ys) // of the part of a cell, from 1 on
	for j := range g.rows() {
		for i := range g.columns() {
			if number[i][j] == 0 {
				l = append(l, nil)
				g.spread(cell{i, j}, number, len(l))
			}
			n := number[i][j] - 1
			l[n] = append(l[n], api.Rect{X: g.xs[i], Y: g.ys[j], W: g.xs[i+1] - g.xs[i], H: g.ys[j+1] - g.ys[j]})
		}
	}
	return l
}

// spread gives a number to a cell and to all that are reached from it without crossing a line.
func (g grid) spread(from cell, number [][]int, n int) {
	number[from.i][from.j] = n
	work := []cell{from}
	for len(work) > 0 {
		c := work[len(work)-1]
		work = work[:len(work)-1]
		for _, next := range g.neighbors(c) {
			if number[next.i][next.j] == 0 {
				number[next.i][next.j] = n
				work = append(work, next)
			}
		}
	}
}

// neighbors returns the cells next to a cell from which no line separates it.
func (g grid) neighbors(c cell) []cell {
	var l []cell
	if c.i > 0 && !g.left[c.i][c.j] {
		l = append(l, cell{c.i - 1, c.j})
	}
	if c.i+1 < g.columns() && !g.left[c.i+1][c.j] {
		l = append(l, cell{c.i + 1, c.j})
	}
	if c.j > 0 && !g.below[c.i][c.j] {
		l = append(l, cell{c.i, c.j - 1})
	}
	if c.j+1 < g.rows() && !g.below[c.i][c.j+1] {
		l = append(l, cell{c.i, c.j + 1})
	}
	return l
}

// squares returns a list of zero values for each of xs, with one for each of ys.
func squares[T any](xs, ys []int) [][]T {
	l := make([][]T, len(xs))
	for i := range l {
		l[i] = make([]T, len(ys))
	}
	return l
}

// position returns the index of n in a sorted list that has it.
func position(sorted []int, n int) int {
	i, _ := slices.BinarySearch(sorted, n)
	return i
}

// sortUnique returns the set of the numbers of l, whose order changes.
func sortUnique(l []int) []int {
	slices.Sort(l)
	return slices.Compact(l)
}
