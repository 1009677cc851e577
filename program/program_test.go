package program_test

import (
	"math"
	"math/rand"
	"reflect"
	"slices"
	"testing"

	"sheetmetal/api"
	"sheetmetal/cut"
	"sheetmetal/program"
)

const (
	top  = api.MaxTicks
	side = api.MinSide * api.Scale // of the smallest square that needs no micro joints
)

// wild are numbers that are out of the range of any field.
var wild = []int{math.MinInt, math.MinInt + 1, -1 << 32, -top - 1, top + 1, 1 << 32, 1<<32 + 1, 1 << 62, math.MaxInt - 1, math.MaxInt}

func move(x, y int) api.Op      { return api.Op{Kind: api.OpMove, X: x, Y: y} }
func line(x, y int) api.Op      { return api.Op{Kind: api.OpLine, X: x, Y: y} }
func breaks(x, y int) api.Op    { return api.Op{Kind: api.OpBreak, X: x, Y: y} }
func stamp(r api.Rect) api.Op   { return api.Op{Kind: api.OpStamp, X: r.X, Y: r.Y, W: r.W, H: r.H} }
func mount(at, pair int) api.Op { return api.Op{Kind: api.OpMount, X: at, N: pair} }

func bend(flange, held, align, pair int) api.Op {
	return api.Op{Kind: api.OpBend, N: flange, X: held, Y: align, W: pair}
}

func rect(x, y, w, h int) api.Rect {
	return api.Rect{X: x, Y: y, W: w, H: h}
}

func segment(x1, y1, x2, y2 int) api.Segment {
	return api.Segment{X1: x1, Y1: y1, X2: x2, Y2: y2}
}

// around returns the operations that cut along the border of a rectangle.
func around(r api.Rect) []api.Op {
	return []api.Op{move(r.X, r.Y), line(r.X+r.W, r.Y), line(r.X+r.W, r.Y+r.H), line(r.X, r.Y+r.H), line(r.X, r.Y)}
}

// sheet returns an empty sheet.
func sheet(w, h int) api.Sheet {
	return api.Sheet{Name: "s", Material: "steel", Gauge: 10, Width: w, Height: h}
}

// piece returns a piece of rectangles.
func piece(l ...api.Rect) api.Piece {
	return api.Piece{Name: "p", Material: "steel", Gauge: 10, Rects: l}
}

// square returns a square piece in a row and column of squares.
func square(column, row int) api.Piece {
	return piece(rect(column*side, row*side, side, side))
}

// layout returns a layout on a sheet of ten by ten squares.
func layout(l ...api.Piece) api.Layout {
	return api.Layout{Sheet: sheet(10*side, 10*side), Pieces: l}
}

// withHole returns a piece with a hole more.
func withHole(x api.Piece, r api.Rect) api.Piece {
	x.Cuts = append(slices.Clone(x.Cuts), r)
	return x
}

// withForm returns a piece with a form more.
func withForm(x api.Piece, r api.Rect) api.Piece {
	x.Forms = append(slices.Clone(x.Forms), r)
	return x
}

// outline returns the item for the outline of a piece, with the lead at the lower left corner of its first rectangle.
func outline(l api.Layout, i, joints int) api.Item {
	r := l.Pieces[i].Rects[0]
	return api.Item{Piece: i, Hole: -1, Joints: joints, Lead: api.Spot{X: r.X, Y: r.Y}}
}

// hole returns the item for a hole of a piece, with the lead next to its lower left corner.
func hole(l api.Layout, i, j int) api.Item {
	r := l.Pieces[i].Cuts[j]
	return api.Item{Piece: i, Hole: j, Lead: api.Spot{X: r.X + 1, Y: r.Y + 1}}
}

// scaled returns a layout with all lengths multiplied.
func scaled(l api.Layout, n int) api.Layout {
	all := func(list []api.Rect) []api.Rect {
		var result []api.Rect
		for _, r := range list {
			result = append(result, rect(n*r.X, n*r.Y, n*r.W, n*r.H))
		}
		return result
	}
	result := api.Layout{Sheet: l.Sheet}
	result.Sheet.Width, result.Sheet.Height = n*l.Sheet.Width, n*l.Sheet.Height
	result.Sheet.Clamps, result.Sheet.Used = all(l.Sheet.Clamps), all(l.Sheet.Used)
	for _, x := range l.Pieces {
		x.Rects, x.Cuts, x.Forms = all(x.Rects), all(x.Cuts), all(x.Forms)
		result.Pieces = append(result.Pieces, x)
	}
	return result
}

// randomRect returns a rectangle in another one, or one that is not valid if that is too small.
func randomRect(r *rand.Rand, in api.Rect, size int) api.Rect {
	w, h := 1+r.Intn(size), 1+r.Intn(size)
	if w > in.W || h > in.H {
		return api.Rect{}
	}
	return rect(in.X+r.Intn(in.W-w+1), in.Y+r.Intn(in.H-h+1), w, h)
}

// randomLayout returns a valid layout with some pieces of one to three rectangles, with holes and forms, on a small sheet with clamps.
func randomLayout(r *rand.Rand) api.Layout {
	l := api.Layout{Sheet: sheet(12+r.Intn(16), 12+r.Intn(16))}
	whole := rect(0, 0, l.Sheet.Width, l.Sheet.Height)
	for range r.Intn(3) {
		l.Sheet.Clamps = append(l.Sheet.Clamps, randomRect(r, whole, 4))
	}
	for range 40 {
		x := piece(randomRect(r, whole, 9))
		for range r.Intn(3) {
			x.Rects = append(x.Rects, randomRect(r, whole, 9))
		}
		for range r.Intn(4) {
			in := x.Rects[r.Intn(len(x.Rects))]
			if r.Intn(2) == 0 {
				x.Cuts = append(x.Cuts, randomRect(r, rect(in.X+1, in.Y+1, in.W-2, in.H-2), 4))
			} else {
				x.Forms = append(x.Forms, randomRect(r, rect(in.X+1, in.Y+1, in.W-2, in.H-2), 3))
			}
		}
		more := api.Layout{Sheet: l.Sheet, Pieces: append(slices.Clone(l.Pieces), x)}
		if cut.Validate(more) == api.OK {
			l = more
		}
	}
	return l
}

// randomItems returns items that cut.Check accepts, with any joints that may be; their order is a shuffled one if that is accepted.
func randomItems(t *testing.T, r *rand.Rand, l api.Layout) []api.Item {
	t.Helper()
	items, e := cut.Plan(l)
	if e != api.OK {
		t.Fatal(l, e)
	}
	for i, x := range items {
		if x.Hole < 0 {
			items[i].Joints = min(x.Joints+r.Intn(5), api.MaxJoints)
		}
	}
	if cut.Check(l, items) != api.OK {
		t.Fatal("not accepted", l, items)
	}
	for range 10 {
		other := slices.Clone(items)
		r.Shuffle(len(other), func(i, j int) { other[i], other[j] = other[j], other[i] })
		for i, x := range other {
			if x.Hole < 0 {
				other[i].Lead = anyCorner(r, l.Pieces[x.Piece])
			}
		}
		if cut.Check(l, other) == api.OK {
			return other
		}
	}
	return items
}

// anyCorner returns a corner of one of the rectangles of a piece.
func anyCorner(r *rand.Rand, x api.Piece) api.Spot {
	face := x.Rects[r.Intn(len(x.Rects))]
	return api.Spot{X: face.X + r.Intn(2)*face.W, Y: face.Y + r.Intn(2)*face.H}
}

// TestArgumentsStay holds that the arguments stay as they are, and that results share no memory with them.
func TestArgumentsStay(t *testing.T) {
	l := layout(withForm(withHole(square(1, 1), rect(side+9, side+9, 5, 5)), rect(side+90, side+9, 5, 5)), square(2, 1))
	l.Sheet.Clamps = []api.Rect{rect(9*side, 9*side, 5, 5)}
	items := []api.Item{hole(l, 0, 0), outline(l, 0, 2), outline(l, 1, 0)}
	items[2].Lead.X = 3 * side
	before, itemsBefore := scaled(l, 1), slices.Clone(items)
	ops, e := program.CutOps(l, items)
	if e != api.OK {
		t.Fatal(e)
	}
	opsBefore := slices.Clone(ops)
	made, e := program.RunCut(l.Sheet, ops)
	if e != api.OK {
		t.Fatal(e)
	}
	lines := slices.Clone(made.Lines)
	slices.Reverse(lines)
	linesBefore := slices.Clone(lines)
	if parts, e := program.Separate(l.Sheet, lines); e != api.OK || len(parts) < 3 {
		t.Fatal(parts, e)
	}
	clear(made.Lines)
	clear(made.Stamps)
	if ok, e := program.CheckCut(l, ops); !ok || e != api.OK {
		t.Error(ok, e)
	}
	if !slices.Equal(ops, opsBefore) || !slices.Equal(items, itemsBefore) || !slices.Equal(lines, linesBefore) {
		t.Error("changed", ops, items, lines)
	}
	if !reflect.DeepEqual(l, before) {
		t.Error("changed", l)
	}
}
