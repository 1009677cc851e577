package program_test

import (
	"math/rand"
	"slices"
	"testing"

	"sheetmetal/api"
	"sheetmetal/cut"
	"sheetmetal/program"
)

// TestHoleOps is example 1 of the chapter.
func TestHoleOps(t *testing.T) {
	l := layout(withHole(piece(rect(0, 0, side, side)), rect(100, 100, 10, 10)))
	got, e := program.CutOps(l, []api.Item{{Lead: api.Spot{X: 105, Y: 105}}, outline(l, 0, 0)})
	want := []api.Op{move(105, 105), move(100, 100), line(110, 100), line(110, 110), line(100, 110), line(100, 100)}
	if e != api.OK || len(got) < 6 || !slices.Equal(got[:6], want) {
		t.Error(got, e)
	}
}

func TestStampsComeFirst(t *testing.T) {
	a, b, c, d := rect(side+300, side+9, 4, 5), rect(side+100, side+9, 6, 7), rect(3*side+9, side+9, 8, 9), rect(3*side+99, side+9, 1, 1)
	l := layout(withForm(withForm(square(1, 1), a), b), square(5, 5), withForm(withForm(square(3, 1), c), d))
	items := []api.Item{outline(l, 2, 0), outline(l, 0, 0), outline(l, 1, 0)}
	got, e := program.CutOps(l, items)
	want := []api.Op{stamp(a), stamp(b), stamp(c), stamp(d), move(3*side, side), move(3*side, side), line(4*side, side)}
	if e != api.OK || !slices.Equal(got[:7], want) {
		t.Error(got, e)
	}
	for _, o := range got[4:] {
		if o.Kind == api.OpStamp {
			t.Error("a stamp after the others", got)
		}
	}
}

// cutsOf returns the operations that cut lines, and those that break joints, each with the operation before it.
func cutsOf(ops []api.Op) (cuts, joints []api.Segment) {
	for i, o := range ops {
		switch o.Kind {
		case api.OpLine:
			cuts = append(cuts, segment(ops[i-1].X, ops[i-1].Y, o.X, o.Y))
		case api.OpBreak:
			joints = append(joints, segment(ops[i-1].X, ops[i-1].Y, o.X, o.Y))
		}
	}
	return cuts, joints
}

func TestGaps(t *testing.T) {
	for _, x := range []struct{ w, h, gapX, gapY int }{
		{1, 1, 0, 0}, {2, 3, 1, 1}, {4, 5, 2, 2}, {1439, 1440, 719, 720}, {1441, 1442, 720, 720}, {1, 100000, 0, 720}, {100000, 1, 720, 0},
	} {
		for joints := 1; joints <= 4; joints++ {
			l := api.Layout{Sheet: sheet(200000, 200000), Pieces: []api.Piece{piece(rect(50, 60, x.w, x.h))}}
			got, e := program.CutOps(l, []api.Item{outline(l, 0, joints)})
			left, low, right, high := 50, 60, 50+x.w, 60+x.h
			edges := []api.Segment{segment(left, low, right, low), segment(left, high, right, high), segment(left, low, left, high), segment(right, low, right, high)}
			var joined, ops []api.Op
			ops = append(ops, move(50, 60))
			for i, s := range edges {
				dx, dy := x.gapX, 0
				if i > 1 {
					dx, dy = 0, x.gapY
				}
				if i >= joints {
					dx, dy = 0, 0
				}
				ops = append(ops, move(s.X1, s.Y1), line(s.X2-dx, s.Y2-dy))
				if dx+dy > 0 {
					joined = append(joined, move(s.X2-dx, s.Y2-dy), breaks(s.X2, s.Y2))
				}
			}
			if e != api.OK || !slices.Equal(got, append(ops, joined...)) {
				t.Error(x, joints, got, e)
			}
			if ok, e := program.CheckCut(l, got); !ok || e != api.OK {
				t.Error(x, joints, ok, e)
			}
		}
	}
}

// TestJointsOfSharedEdges holds that joints are on the first edges that are not cut yet, that an outline has at most as many as edges are left, and in which order they are broken.
func TestJointsOfSharedEdges(t *testing.T) {
	l := layout(square(1, 1), square(2, 1), square(1, 2), square(2, 2))
	got, e := program.CutOps(l, []api.Item{outline(l, 3, 2), outline(l, 0, 1), {Piece: 1, Hole: -1, Joints: 4, Lead: api.Spot{X: 2 * side, Y: side}}, {Piece: 2, Hole: -1, Lead: api.Spot{X: side, Y: 3 * side}}})
	if e != api.OK {
		t.Fatal(e)
	}
	a, b, c, g := side, 2*side, 3*side, api.Scale
	cuts, joints := cutsOf(got)
	want := []api.Segment{
		segment(b, b, c-g, b), segment(b, c, c-g, c), segment(b, b, b, c), segment(c, b, c, c),
		segment(a, a, b-g, a), segment(a, b, b, b), segment(a, a, a, b), segment(b, a, b, b),
		segment(b, a, c-g, a), segment(c, a, c, b-g),
		segment(a, c, b, c), segment(a, b, a, c),
	}
	if !slices.Equal(cuts, want) {
		t.Error(cuts)
	}
	if !slices.Equal(joints, []api.Segment{segment(c-g, b, c, b), segment(c-g, c, c, c), segment(b-g, a, b, a), segment(c-g, a, c, a), segment(c, b-g, c, b)}) {
		t.Error(joints)
	}
	last := got[len(got)-10:]
	for i, o := range last {
		if (o.Kind == api.OpBreak) != (i%2 == 1) || (o.Kind == api.OpMove) != (i%2 == 0) {
			t.Error("the joints are not at the end", last)
		}
	}
	if ok, e := program.CheckCut(l, got); !ok || e != api.OK {
		t.Error(ok, e)
	}
}

// wantOps writes the program from the states of package cut before and after each item.
func wantOps(t *testing.T, l api.Layout, items []api.Item) []api.Op {
	t.Helper()
	var ops, last []api.Op
	for _, x := range l.Pieces {
		for _, r := range x.Forms {
			ops = append(ops, stamp(r))
		}
	}
	edges, _ := cut.Edges(l)
	st, _ := cut.Start(l)
	for _, x := range items {
		next, e := cut.Do(l, st, x)
		if e != api.OK {
			t.Fatal(l, items, e)
		}
		ops = append(ops, move(x.Lead.X, x.Lead.Y))
		if x.Hole >= 0 {
			ops = append(ops, around(l.Pieces[x.Piece].Cuts[x.Hole])...)
		}
		joints := x.Joints
		for i, e := range edges {
			if !next.Cut[i] || st.Cut[i] {
				continue
			}
			s, gap := e.Line, 0
			length := s.X2 - s.X1 + s.Y2 - s.Y1
			if joints > 0 {
				joints--
				gap = min(720, length/2)
			}
			x, y := s.X2-gap*(s.X2-s.X1)/length, s.Y2-gap*(s.Y2-s.Y1)/length
			ops = append(ops, move(s.X1, s.Y1), line(x, y))
			if gap > 0 {
				last = append(last, move(x, y), breaks(s.X2, s.Y2))
			}
		}
		st = next
	}
	return append(ops, last...)
}

func TestCutOpsOfRandomLayouts(t *testing.T) {
	r := rand.New(rand.NewSource(81))
	pieces, gaps := 0, 0
	for range 1500 {
		l := scaled(randomLayout(r), []int{1, 2, 300, 1500, 8000}[r.Intn(5)])
		items := randomItems(t, r, l)
		got, e := program.CutOps(l, items)
		if e != api.OK || !slices.Equal(got, wantOps(t, l, items)) {
			t.Fatal(l, items, got, e)
		}
		_, joints := cutsOf(got)
		pieces, gaps = pieces+len(l.Pieces), gaps+len(joints)
		if ok, e := program.CheckCut(l, got); !ok || e != api.OK {
			t.Fatal(l, items, ok, e)
		}
	}
	if pieces < 3000 || gaps < 3000 {
		t.Error("too few", pieces, gaps)
	}
}

func TestErrorsOfCutOps(t *testing.T) {
	l := layout(withHole(square(1, 1), rect(side+9, side+9, 5, 5)), square(2, 1))
	small := layout(withHole(square(1, 1), rect(side+9, side+9, 5, 5)))
	small.Pieces[0].Rects[0].W--
	noSheet, noPiece, far, crossing := layout(), layout(square(1, 1)), layout(square(10, 0)), layout(square(1, 1), square(1, 1))
	noSheet.Sheet.Name = ""
	noPiece.Pieces[0].Rects = nil
	good := []api.Item{hole(l, 0, 0), outline(l, 0, 0), outline(l, 1, 0)}
	good[2].Lead.X = 3 * side
	for _, x := range []struct {
		name  string
		l     api.Layout
		items []api.Item
		want  api.Errno
	}{
		{"nothing", api.Layout{}, nil, api.ErrName},
		{"no sheet", noSheet, nil, api.ErrName},
		{"no piece", noPiece, nil, api.ErrArg},
		{"beside the sheet", far, []api.Item{outline(far, 0, 0)}, api.ErrFit},
		{"over one another", crossing, nil, api.ErrOverlap},
		{"no items", l, nil, api.ErrOrder},
		{"too many items", l, make([]api.Item, api.MaxItems+1), api.ErrLarge},
		{"no hole", l, good[1:], api.ErrOrder},
		{"no outline", l, good[:2], api.ErrOrder},
		{"twice", l, append(slices.Clone(good), good[2]), api.ErrOrder},
		{"no such piece", l, []api.Item{{Piece: 2}}, api.ErrArg},
		{"no such hole", l, []api.Item{{Hole: -2}}, api.ErrArg},
		{"without joints", small, []api.Item{hole(small, 0, 0), outline(small, 0, 0)}, api.ErrJoint},
		{"a wrong lead", l, []api.Item{hole(l, 0, 0), {Hole: -1, Lead: api.Spot{X: side + 1, Y: side + 1}}, good[2]}, api.ErrLead},
	} {
		if got, e := program.CutOps(x.l, x.items); e != x.want || len(got) != 0 {
			t.Error(x.name, got, e)
		}
	}
	for _, n := range wild {
		for _, x := range []api.Item{{Piece: n}, {Hole: n}, {Hole: -1, Joints: n}} {
			if got, e := program.CutOps(l, []api.Item{x}); e != api.ErrArg || len(got) != 0 {
				t.Error(x, got, e)
			}
		}
	}
	if got, e := program.CutOps(l, good); e != api.OK || len(got) == 0 {
		t.Error(got, e)
	}
	if got, e := program.CutOps(layout(), nil); e != api.OK || len(got) != 0 {
		t.Error("no pieces", got, e)
	}
}

// steps returns a piece of twelve rectangles like stairs, with twelve holes and twelve forms.
func steps(x, y int) api.Piece {
	var p api.Piece
	for i := range 12 {
		r := rect(x+100*i, y+100*i, 200, 100)
		p.Rects = append(p.Rects, r)
		p.Cuts = append(p.Cuts, rect(r.X+2, r.Y+2, 2, 2))
		p.Forms = append(p.Forms, rect(r.X+50, r.Y+50, 2, 2))
	}
	p.Name, p.Material, p.Gauge = "p", "steel", 10
	return p
}

// TestLargestProgram has as many pieces, holes and forms as may be: the program is in its limit, and only Separate has too many lines.
func TestLargestProgram(t *testing.T) {
	l := api.Layout{Sheet: sheet(top, top)}
	for i := range api.MaxPieces {
		l.Pieces = append(l.Pieces, steps(2000*i, 2000))
	}
	items, e := cut.Plan(l)
	if e != api.OK {
		t.Fatal(e)
	}
	for i := range items {
		if items[i].Hole < 0 {
			items[i].Joints = api.MaxJoints
		}
	}
	ops, e := program.CutOps(l, items)
	if e != api.OK || len(ops) > api.MaxOps {
		t.Fatal(len(ops), e)
	}
	made, e := program.RunCut(l.Sheet, ops)
	if e != api.OK || len(made.Stamps) != 96 || len(made.Lines) <= 200 {
		t.Fatal(len(made.Stamps), len(made.Lines), e)
	}
	if _, e := program.Separate(l.Sheet, made.Lines); e != api.ErrLarge {
		t.Error(e)
	}
	if ok, e := program.CheckCut(l, ops); ok || e != api.OK {
		t.Error(ok, e)
	}
}
