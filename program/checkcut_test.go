package program_test

import (
	"math/rand"
	"slices"
	"testing"

	"sheetmetal/api"
	"sheetmetal/program"
)

// sample returns a layout with two pieces that touch, of which the first has a hole and both have a form, and its program.
func sample(t *testing.T, joints int) (api.Layout, []api.Op) {
	t.Helper()
	l := layout(withForm(withHole(square(1, 1), rect(side+100, side+100, 50, 40)), rect(side+200, side+9, 6, 7)), withForm(square(2, 1), rect(2*side+9, side+9, 8, 9)))
	ops, e := program.CutOps(l, []api.Item{hole(l, 0, 0), outline(l, 1, joints), outline(l, 0, joints)})
	if e != api.OK {
		t.Fatal(e)
	}
	return l, ops
}

// without returns the operations without one.
func without(ops []api.Op, i int) []api.Op {
	return slices.Delete(slices.Clone(ops), i, i+1)
}

func TestCheckCut(t *testing.T) {
	l, ops := sample(t, 0)
	first, second := stamp(l.Pieces[0].Forms[0]), stamp(l.Pieces[1].Forms[0])
	for _, x := range []struct {
		name string
		ops  []api.Op
		want bool
	}{
		{"as it is", ops, true},
		{"the stamps at the end", slices.Concat(ops[2:], ops[:2]), true},
		{"the stamps in another order", slices.Concat([]api.Op{second, first}, ops[2:]), false},
		{"without a stamp", ops[1:], false},
		{"a stamp more", append(slices.Clone(ops), first), false},
		{"another stamp", slices.Concat([]api.Op{first, stamp(rect(9, 9, 8, 9))}, ops[2:]), false},
		{"nothing", nil, false},
		{"the stamps alone", ops[:2], false},
		{"a line twice", slices.Concat(ops, []api.Op{move(side, side), line(2*side, side)}), true},
		{"a line less", ops[:len(ops)-1], false},
		{"a break for a line", slices.Concat(ops[:len(ops)-1], []api.Op{breaks(ops[len(ops)-1].X, ops[len(ops)-1].Y)}), true},
		{"a line too short", slices.Concat(ops[:len(ops)-1], []api.Op{line(ops[len(ops)-1].X, ops[len(ops)-1].Y-1)}), false},
		{"a slit in a piece", slices.Concat(ops, []api.Op{move(side+500, side+500), line(side+900, side+500)}), true},
		{"a slit from its border", slices.Concat(ops, []api.Op{move(side, side+500), line(side+900, side+500)}), true},
		{"lines in the rest", slices.Concat(ops, []api.Op{move(0, 5), line(10*side, 5), move(9*side, 0), line(9*side, 10*side)}), true},
		{"a piece in two", slices.Concat(ops, []api.Op{move(side, side+500), line(2*side, side+500)}), false},
		{"the other piece in two", slices.Concat(ops, []api.Op{move(3*side-1, side), line(3*side-1, 2*side)}), false},
		{"a hole in two", slices.Concat(ops, []api.Op{move(side+110, side+100), line(side+110, side+140)}), false},
		{"a hole more", slices.Concat(ops, around(rect(side+600, side+600, 1, 1))), false},
		{"a hole more in the rest", slices.Concat(ops, around(rect(5*side, side, 1, 1))), true},
		{"an operation that is refused", slices.Concat(ops, []api.Op{line(1, 1)}), false},
		{"another kind", slices.Concat(ops, []api.Op{mount(0, 0)}), false},
		{"as many operations as may be", slices.Concat(ops, slices.Repeat([]api.Op{move(0, 0)}, api.MaxOps-len(ops))), true},
		{"too many operations", slices.Concat(ops, slices.Repeat([]api.Op{move(0, 0)}, api.MaxOps-len(ops)+1)), false},
	} {
		if got, e := program.CheckCut(l, x.ops); got != x.want || e != api.OK {
			t.Error(x.name, got, e)
		}
	}
	for _, n := range wild {
		if got, e := program.CheckCut(l, append(slices.Clone(ops), line(n, n))); got || e != api.OK {
			t.Error(n, got, e)
		}
	}
}

// TestCheckCutNeedsAllBreaks holds that no part is separated where a joint is left.
func TestCheckCutNeedsAllBreaks(t *testing.T) {
	l, ops := sample(t, 3)
	if got, e := program.CheckCut(l, ops); !got || e != api.OK {
		t.Error(got, e)
	}
	n := 0
	for i, o := range ops {
		if o.Kind != api.OpBreak {
			continue
		}
		n++
		if got, e := program.CheckCut(l, without(ops, i)); got || e != api.OK {
			t.Error("without the break", o, got, e)
		}
	}
	if n != 6 {
		t.Error("breaks", n)
	}
}

// TestCheckCutComparesShapes has parts with the area of a piece, but in another place or shape.
func TestCheckCutComparesShapes(t *testing.T) {
	l := layout(piece(rect(20, 20, 20, 10), rect(20, 30, 10, 10)))
	for _, x := range []struct {
		name string
		ops  []api.Op
		want bool
	}{
		{"as it is", []api.Op{move(20, 20), line(40, 20), line(40, 30), line(30, 30), line(30, 40), line(20, 40), line(20, 20)}, true},
		{"mirrored", []api.Op{move(20, 20), line(40, 20), line(40, 40), line(30, 40), line(30, 30), line(20, 30), line(20, 20)}, false},
		{"moved", []api.Op{move(21, 20), line(41, 20), line(41, 30), line(31, 30), line(31, 40), line(21, 40), line(21, 20)}, false},
		{"far away", around(rect(200, 20, 20, 15)), false},
		{"around it", around(rect(20, 20, 20, 20)), false},
	} {
		if got, e := program.CheckCut(l, x.ops); got != x.want || e != api.OK {
			t.Error(x.name, got, e)
		}
	}
	holed := layout(withHole(piece(rect(20, 20, 20, 20)), rect(25, 25, 5, 5)))
	for _, x := range []struct {
		name string
		hole api.Rect
		want bool
	}{
		{"as it is", rect(25, 25, 5, 5), true},
		{"moved", rect(26, 25, 5, 5), false},
		{"larger", rect(25, 25, 5, 6), false},
		{"smaller", rect(25, 25, 5, 4), false},
		{"in the rest", rect(125, 25, 5, 5), false},
	} {
		if got, e := program.CheckCut(holed, slices.Concat(around(rect(20, 20, 20, 20)), around(x.hole))); got != x.want || e != api.OK {
			t.Error(x.name, got, e)
		}
	}
	if got, e := program.CheckCut(layout(), nil); !got || e != api.OK {
		t.Error("no pieces", got, e)
	}
	whole := api.Layout{Sheet: sheet(side, side), Pieces: []api.Piece{piece(rect(0, 0, side, side))}}
	if got, e := program.CheckCut(whole, nil); !got || e != api.OK {
		t.Error("a piece that is the whole sheet", got, e)
	}
}

// TestCheckCutWhenSeparateFails has too many lines, and too many rectangles.
func TestCheckCutWhenSeparateFails(t *testing.T) {
	l, ops := sample(t, 0)
	var slits, cross []api.Op
	for i := range 200 {
		slits = append(slits, move(5*side+3*i, 9*side), line(5*side+3*i, 9*side+1))
	}
	for _, s := range mesh(sheet(1000, 1000), 76, 79) {
		cross = append(cross, move(s.X1, s.Y1), line(s.X2, s.Y2))
	}
	for _, more := range [][]api.Op{slits, cross} {
		if got, e := program.CheckCut(l, slices.Concat(ops, more)); got || e != api.OK {
			t.Error(got, e)
		}
		if got, e := program.CheckCut(l, slices.Concat(ops, more[:40])); !got || e != api.OK {
			t.Error("some of them", got, e)
		}
	}
}

func TestErrorsOfCheckCut(t *testing.T) {
	noSheet, noPiece, far, crossing := layout(), layout(square(1, 1)), layout(square(10, 0)), layout(square(1, 1), square(1, 1))
	noSheet.Sheet.Name = ""
	noPiece.Pieces[0].Rects = nil
	many := layout()
	many.Pieces = make([]api.Piece, api.MaxPieces+1)
	for _, x := range []struct {
		name string
		l    api.Layout
		want api.Errno
	}{
		{"nothing", api.Layout{}, api.ErrName},
		{"no sheet", noSheet, api.ErrName},
		{"no piece", noPiece, api.ErrArg},
		{"too many pieces", many, api.ErrLarge},
		{"beside the sheet", far, api.ErrFit},
		{"over one another", crossing, api.ErrOverlap},
	} {
		for _, ops := range [][]api.Op{nil, {line(1, 1)}, make([]api.Op, api.MaxOps+1)} {
			if got, e := program.CheckCut(x.l, ops); got || e != x.want {
				t.Error(x.name, got, e)
			}
		}
	}
}

// isCut is CheckCut by squares of side 1, for a program that RunCut accepts.
func isCut(l api.Layout, made program.Cutting) bool {
	var forms []api.Rect
	for _, x := range l.Pieces {
		forms = append(forms, x.Forms...)
	}
	number := flooded(l.Sheet.Width, l.Sheet.Height, newStrokes(made.Lines...))
	// alone reports whether the squares in region are all those of one part.
	alone := func(region func(x, y int) bool) bool {
		inside, outside := map[int]bool{}, map[int]bool{}
		for x := range number {
			for y, n := range number[x] {
				if region(x, y) {
					inside[n] = true
				} else {
					outside[n] = true
				}
			}
		}
		for n := range inside {
			return len(inside) == 1 && !outside[n]
		}
		return false
	}
	in := func(rects []api.Rect, x, y int) bool {
		return slices.ContainsFunc(rects, func(r api.Rect) bool { return r.X <= x && x < r.X+r.W && r.Y <= y && y < r.Y+r.H })
	}
	for _, p := range l.Pieces {
		if !alone(func(x, y int) bool { return in(p.Rects, x, y) && !in(p.Cuts, x, y) }) {
			return false
		}
		for _, r := range p.Cuts {
			if !alone(func(x, y int) bool { return in([]api.Rect{r}, x, y) }) {
				return false
			}
		}
	}
	return slices.Equal(forms, made.Stamps)
}

// disturbed returns the operations with a random change.
func disturbed(r *rand.Rand, s api.Sheet, ops []api.Op) []api.Op {
	if len(ops) == 0 {
		return ops
	}
	i := r.Intn(len(ops))
	switch r.Intn(4) {
	case 0:
		return without(ops, i)
	case 1:
		l := randomLine(r, s.Width, s.Height)
		return slices.Insert(slices.Clone(ops), len(ops), move(l.X1, l.Y1), line(l.X2, l.Y2))
	case 2:
		c := slices.Clone(ops)
		c[i].X += r.Intn(3) - 1
		c[i].Y += r.Intn(3) - 1
		return c
	}
	c := slices.Clone(ops)
	c[i].Kind = 1 + r.Intn(4)
	return c
}

func TestCheckCutOfDisturbedPrograms(t *testing.T) {
	r := rand.New(rand.NewSource(84))
	seen := map[[2]bool]int{}
	for range 3000 {
		l := randomLayout(r)
		ops, e := program.CutOps(l, randomItems(t, r, l))
		if e != api.OK {
			t.Fatal(l, e)
		}
		ops = disturbed(r, l.Sheet, ops)
		made, refused := program.RunCut(l.Sheet, ops)
		want := refused == api.OK && isCut(l, made)
		if got, e := program.CheckCut(l, ops); got != want || e != api.OK {
			t.Fatal(l, ops, got, e, want)
		}
		seen[[2]bool{refused == api.OK, want}]++
	}
	if seen[[2]bool{true, true}] < 300 || seen[[2]bool{true, false}] < 300 || seen[[2]bool{false, false}] < 300 {
		t.Error(seen)
	}
}
