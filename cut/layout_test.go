package cut_test

import (
	"math"
	"reflect"
	"slices"
	"testing"

	"sheetmetal/api"
	"sheetmetal/cut"
	"sheetmetal/geom"
	"sheetmetal/nest"
)

func TestLayoutOf(t *testing.T) {
	x := piece(rect(0, 0, 30, 20), rect(30, 0, 10, 10))
	x.Cuts, x.Forms = []api.Rect{rect(2, 3, 4, 5)}, []api.Rect{rect(20, 10, 3, 2)}
	y := piece(rect(0, 0, 9, 9))
	y.Name = "q"
	s := sheet(100, 80)
	s.Clamps, s.Used = []api.Rect{rect(0, 0, 10, 10)}, []api.Rect{rect(90, 0, 10, 80)}
	sheets, pieces := []api.Sheet{s, sheet(60, 60), sheet(20, 20)}, []api.Piece{x, y, y, x}
	places := []api.Placement{{Piece: 2, Sheet: 1, X: 50}, {Piece: 3, X: 10}, {Piece: 0, Sheet: 1, Turn: 3, Y: 7}, {Piece: 1, X: 50, Y: 2}}
	turned := piece(rect(0, 17, 20, 30), rect(0, 7, 10, 10))
	turned.Cuts, turned.Forms = []api.Rect{rect(3, 41, 5, 4)}, []api.Rect{rect(10, 24, 2, 3)}
	moved := piece(rect(10, 0, 30, 20), rect(40, 0, 10, 10))
	moved.Cuts, moved.Forms = []api.Rect{rect(12, 3, 4, 5)}, []api.Rect{rect(30, 10, 3, 2)}
	first, last := y, y
	first.Rects, last.Rects = []api.Rect{rect(50, 0, 9, 9)}, []api.Rect{rect(50, 2, 9, 9)}
	for i, want := range []api.Layout{{Sheet: s, Pieces: []api.Piece{moved, last}}, {Sheet: sheets[1], Pieces: []api.Piece{first, turned}}, {Sheet: sheets[2]}} {
		l, e := cut.LayoutOf(sheets, pieces, api.Settings{}, places, i)
		if e != api.OK || !sameLayout(l, want) {
			t.Error(i, l, e)
		}
		if e := cut.Validate(l); e != api.OK {
			t.Error(i, e)
		}
	}
	if l, e := cut.LayoutOf(sheets, nil, api.Settings{Gap: 5, Margin: 5}, nil, 0); e != api.OK || !sameLayout(l, api.Layout{Sheet: s}) {
		t.Error(l, e)
	}
}

// sameLayout compares layouts, in which a list may be nil or empty.
func sameLayout(a, b api.Layout) bool {
	samePiece := func(x, y api.Piece) bool {
		same := slices.Equal(x.Rects, y.Rects) && slices.Equal(x.Cuts, y.Cuts) && slices.Equal(x.Forms, y.Forms)
		return same && x.Name == y.Name && x.Material == y.Material && x.Gauge == y.Gauge && x.Grain == y.Grain
	}
	same := slices.Equal(a.Sheet.Clamps, b.Sheet.Clamps) && slices.Equal(a.Sheet.Used, b.Sheet.Used) && slices.EqualFunc(a.Pieces, b.Pieces, samePiece)
	a.Sheet.Clamps, a.Sheet.Used, b.Sheet.Clamps, b.Sheet.Used = nil, nil, nil, nil
	return same && reflect.DeepEqual(a.Sheet, b.Sheet)
}

// nesting is the argument of LayoutOf.
type nesting struct {
	sheets []api.Sheet
	pieces []api.Piece
	set    api.Settings
	l      []api.Placement
	sheet  int
}

func TestErrorsOfLayoutOf(t *testing.T) {
	valid := func() nesting {
		x := piece(rect(0, 0, 20, 20))
		return nesting{sheets: []api.Sheet{sheet(100, 80), sheet(60, 60)}, pieces: []api.Piece{x, x, x}, l: []api.Placement{{X: 10}, {Piece: 1, X: 30}, {Piece: 2, Sheet: 1}}, sheet: 1}
	}
	faults := []fault[nesting]{
		{"many sheets", 0, api.ErrLarge, func(n *nesting) { n.sheets = slices.Repeat(n.sheets, 3) }},
		{"many pieces", 0, api.ErrLarge, func(n *nesting) { n.pieces = slices.Repeat(n.pieces, 3) }},
		{"a wrong sheet", 1, api.ErrName, func(n *nesting) { n.sheets[0].Material = "" }},
		{"a wrong piece", 2, api.ErrShape, func(n *nesting) { n.pieces[1].Rects = []api.Rect{rect(0, 0, 9, 9), rect(9, 9, 1, 1)} }},
		{"the gap", 3, api.ErrArg, func(n *nesting) { n.set.Gap = -1 }},
		{"the margin", 3, api.ErrArg, func(n *nesting) { n.set.Margin = api.MaxGap*api.Scale + 1 }},
		{"no such piece", 4, api.ErrArg, func(n *nesting) { n.l = append(n.l, api.Placement{Piece: 99}) }},
		{"twice", 5, api.ErrOrder, func(n *nesting) { n.l = append(n.l, api.Placement{X: 70}) }},
		{"out of its sheet, which is another one", 5, api.ErrFit, func(n *nesting) { n.l = slices.Insert(n.l, 0, api.Placement{X: -1}) }},
	}
	for _, i := range append(wild, -1, 12) {
		faults = append(faults, fault[nesting]{"no such sheet", 9, api.ErrNone, func(n *nesting) { n.sheet = i }})
	}
	faults = slices.DeleteFunc(faults, func(f fault[nesting]) bool { return f.want == api.ErrArg && f.rank == 4 })
	expectFaults(t, valid, faults, func(n nesting) api.Errno {
		l, e := cut.LayoutOf(n.sheets, n.pieces, n.set, n.l, n.sheet)
		if e != api.OK && !reflect.DeepEqual(l, api.Layout{}) {
			t.Error("not a zero value", n, l)
		}
		return e
	})
	for i, want := range map[int]api.Errno{-1: api.ErrNone, 0: api.OK, 1: api.OK, 2: api.ErrNone} {
		n := valid()
		if _, e := cut.LayoutOf(n.sheets, n.pieces, n.set, n.l, i); e != want {
			t.Error(i, e)
		}
	}
	if _, e := cut.LayoutOf(nil, nil, api.Settings{}, nil, 0); e != api.ErrNone {
		t.Error(e)
	}
	// The error of a placement comes before that of the sheet, whatever sheet it is on.
	for _, x := range []struct {
		at   api.Placement
		want api.Errno
	}{
		{api.Placement{Piece: 3}, api.ErrArg},
		{api.Placement{Piece: 2, Sheet: 2}, api.ErrArg},
		{api.Placement{Piece: 2, Turn: 4}, api.ErrArg},
		{api.Placement{X: 70}, api.ErrOrder},
		{api.Placement{Piece: 2, X: 81}, api.ErrFit},
		{api.Placement{Piece: 2, X: 29}, api.ErrOverlap},
	} {
		n := valid()
		n.l[2] = x.at
		for i := -1; i < 3; i++ {
			if l, e := cut.LayoutOf(n.sheets, n.pieces, n.set, n.l, i); e != x.want || !reflect.DeepEqual(l, api.Layout{}) {
				t.Error(x.at, i, l, e)
			}
		}
	}
}

// plates returns a layout of a piece of two rectangles with holes in both of them, and of a square.
func plates() api.Layout {
	s := sheet(100, 80)
	s.Clamps, s.Used = []api.Rect{rect(0, 0, 10, 10)}, []api.Rect{rect(90, 0, 10, 80)}
	x := piece(rect(20, 20, 20, 20), rect(40, 25, 10, 10))
	x.Cuts = []api.Rect{rect(21, 21, 4, 4), rect(42, 27, 2, 2)}
	x.Forms = []api.Rect{rect(30, 30, 1, 9), rect(34, 34, 5, 5)}
	return api.Layout{Sheet: s, Pieces: []api.Piece{x, piece(rect(60, 50, 10, 10))}}
}

// invalid are rectangles that are not valid.
func invalid() []api.Rect {
	l := []api.Rect{rect(0, 0, 0, 5), rect(0, 0, 5, 0), rect(0, 0, -1, 5), rect(5, 5, 5, -5), rect(-top-1, 0, 5, 5), rect(0, top, 5, 1), rect(top-4, 0, 5, 5)}
	for _, n := range wild {
		l = append(l, rect(n, 0, 5, 5), rect(0, n, 5, 5), rect(0, 0, n, 5), rect(0, 0, 5, n), rect(n, n, n, n))
	}
	return l
}

// layoutFaults are faults of plates. Those of the square come after those of the first piece.
func layoutFaults() []fault[api.Layout] {
	l := []fault[api.Layout]{
		{"the sheet's name", 0, api.ErrName, func(l *api.Layout) { l.Sheet.Name = "S" }},
		{"the sheet's gauge", 1, api.ErrArg, func(l *api.Layout) { l.Sheet.Gauge = 0 }},
		{"five clamps", 2, api.ErrLarge, func(l *api.Layout) { l.Sheet.Clamps = slices.Repeat(l.Sheet.Clamps, 5) }},
		{"a clamp outside", 3, api.ErrFit, func(l *api.Layout) { l.Sheet.Clamps[0].X = -1 }},
		{"nine pieces", 10, api.ErrLarge, func(l *api.Layout) { l.Pieces = append(l.Pieces, make([]api.Piece, 7)...) }},
		{"very many pieces", 10, api.ErrLarge, func(l *api.Layout) { l.Pieces = append(l.Pieces, make([]api.Piece, 100000)...) }},
	}
	for _, r := range invalid() {
		l = append(l, fault[api.Layout]{"an invalid rectangle", 20, api.ErrArg, func(l *api.Layout) { l.Pieces[0].Rects = append(l.Pieces[0].Rects, r) }},
			fault[api.Layout]{"an invalid rectangle, at the beginning", 20, api.ErrArg, func(l *api.Layout) { l.Pieces[0].Rects = slices.Insert(l.Pieces[0].Rects, 0, r) }},
			fault[api.Layout]{"an invalid rectangle of the square", 30, api.ErrArg, func(l *api.Layout) { l.Pieces[1].Rects = []api.Rect{r} }})
	}
	l = append(l, faultsOfPlaced()...)
	for _, r := range []api.Rect{rect(-1, 50, 10, 10), rect(60, -1, 10, 10), rect(60, 71, 10, 10), rect(91, 71, 10, 10), rect(200, 200, 10, 10), rect(9, 9, 5, 5), rect(81, 50, 10, 10), rect(-top, -top, 5, 5), rect(top-5, top-5, 5, 5)} {
		l = append(l, fault[api.Layout]{"not on the sheet", 40, api.ErrFit, func(l *api.Layout) { l.Pieces[len(l.Pieces)-1].Rects = []api.Rect{r} }})
	}
	l = append(l, fault[api.Layout]{"the first piece beyond the sheet", 40, api.ErrFit, func(l *api.Layout) { l.Pieces[0] = moved(l.Pieces[0], -21, 0) }},
		fault[api.Layout]{"a clamp on the first piece", 40, api.ErrFit, func(l *api.Layout) { l.Sheet.Clamps = append(l.Sheet.Clamps, rect(49, 34, 1, 1)) }},
		fault[api.Layout]{"the square used before", 40, api.ErrFit, func(l *api.Layout) { l.Sheet.Used = append(l.Sheet.Used, rect(69, 59, 9, 9)) }},
		fault[api.Layout]{"one more beyond the sheet", 40, api.ErrFit, func(l *api.Layout) { l.Pieces = append(l.Pieces, piece(rect(85, 71, 5, 10))) }})
	for _, r := range []api.Rect{rect(49, 34, 10, 10), rect(20, 20, 20, 20), rect(39, 39, 1, 1), rect(22, 22, 1, 1)} {
		l = append(l, fault[api.Layout]{"on the first piece", 50, api.ErrOverlap, func(l *api.Layout) { l.Pieces = append(l.Pieces, piece(r)) }})
	}
	return append(l, fault[api.Layout]{"the square on another one", 50, api.ErrOverlap, func(l *api.Layout) { l.Pieces = append(l.Pieces, piece(rect(69, 59, 5, 5))) }})
}

// faultsOfPlaced are those faults of the pieces of plates that nest.ValidatePiece finds.
func faultsOfPlaced() []fault[api.Layout] {
	var result []fault[api.Layout]
	for i := range 2 {
		// The rank grows with the piece: of several pieces the first one decides.
		rank := 20 + 10*i
		add := func(name string, more int, want api.Errno, make func(x *api.Piece)) {
			result = append(result, fault[api.Layout]{name, rank + more, want, func(l *api.Layout) { make(&l.Pieces[i]) }})
		}
		many := slices.Repeat([]api.Rect{rect(60, 50, 1, 1)}, 13)
		add("name", 1, api.ErrName, func(x *api.Piece) { x.Name = "" })
		add("material", 1, api.ErrName, func(x *api.Piece) { x.Material = "S" })
		add("gauge", 2, api.ErrArg, func(x *api.Piece) { x.Gauge = api.MaxGauge + 1 })
		add("grain", 2, api.ErrArg, func(x *api.Piece) { x.Grain = 3 })
		add("13 rectangles", 3, api.ErrLarge, func(x *api.Piece) { x.Rects = append(x.Rects, many...) })
		add("13 cuts", 3, api.ErrLarge, func(x *api.Piece) { x.Cuts = append(x.Cuts, many...) })
		add("13 forms", 3, api.ErrLarge, func(x *api.Piece) { x.Forms = append(x.Forms, many...) })
		for _, r := range invalid() {
			// A hole counts from the piece's corner, so one that is invalid by a little is valid there.
			if geom.ValidRect(rect(r.X-60, r.Y-50, r.W, r.H)) || geom.ValidRect(rect(r.X-20, r.Y-20, r.W, r.H)) {
				continue
			}
			add("an invalid cut", 4, api.ErrArg, func(x *api.Piece) { x.Cuts = append(x.Cuts, r) })
			add("an invalid form", 4, api.ErrArg, func(x *api.Piece) { x.Forms = append(x.Forms, r) })
		}
		add("two overlap", 5, api.ErrOverlap, func(x *api.Piece) { x.Rects = append(x.Rects, x.Rects[0]) })
		add("apart", 6, api.ErrShape, func(x *api.Piece) { x.Rects = append(x.Rects, rect(72, 20, 2, 2)) })
		add("a cut outside", 7, api.ErrFit, func(x *api.Piece) { x.Cuts = append(x.Cuts, rect(5, 5, 2, 2)) })
		add("a cut at a side", 7, api.ErrFit, func(x *api.Piece) { x.Cuts = append(x.Cuts, rect(x.Rects[0].X, x.Rects[0].Y+1, 2, 2)) })
		add("a cut that is too narrow", 7, api.ErrFit, func(x *api.Piece) { x.Cuts = append(x.Cuts, rect(x.Rects[0].X+7, x.Rects[0].Y+1, 1, 2)) })
		add("a form at a side", 7, api.ErrFit, func(x *api.Piece) { x.Forms = append(x.Forms, rect(x.Rects[0].X+1, x.Rects[0].Y, 2, 2)) })
		add("holes that touch", 8, api.ErrOverlap, func(x *api.Piece) {
			x.Cuts = append(x.Cuts, rect(x.Rects[0].X+1, x.Rects[0].Y+7, 2, 2))
			x.Forms = append(x.Forms, rect(x.Rects[0].X+3, x.Rects[0].Y+7, 2, 2))
		})
	}
	return append(result, fault[api.Layout]{"no rectangles", 24, api.ErrArg, func(l *api.Layout) { l.Pieces[0].Rects = nil }},
		fault[api.Layout]{"a piece of nothing", 39, api.ErrName, func(l *api.Layout) { l.Pieces = append(l.Pieces, api.Piece{}) }})
}

func TestValidate(t *testing.T) {
	expectFaults(t, plates, compatible(layoutFaults()), cut.Validate)
}

// compatible leaves out the faults that undo another one, because both set or move the same rectangles.
func compatible(l []fault[api.Layout]) []fault[api.Layout] {
	return slices.DeleteFunc(l, func(f fault[api.Layout]) bool {
		return f.name == "not on the sheet" || f.name == "the first piece beyond the sheet" || f.name == "an invalid rectangle of the square" || f.name == "no rectangles" || f.name == "very many pieces"
	})
}

func TestEachFaultOfLayouts(t *testing.T) {
	for _, f := range layoutFaults() {
		l := plates()
		f.make(&l)
		if e := cut.Validate(l); e != f.want {
			t.Error(f.name, e)
		}
		expectRefusal(t, f.name, l, f.want)
	}
}

// expectRefusal holds that each function that takes a layout returns its error before any other.
func expectRefusal(t *testing.T, name string, l api.Layout, want api.Errno) {
	t.Helper()
	if edges, e := cut.Edges(l); len(edges) != 0 || e != want {
		t.Error("Edges", name, edges, e)
	}
	if st, e := cut.Start(l); !isZero(st) || e != want {
		t.Error("Start", name, st, e)
	}
	if st, e := cut.Do(l, cut.State{}, api.Item{Piece: -1}); !isZero(st) || e != want {
		t.Error("Do", name, st, e)
	}
	for _, items := range [][]api.Item{nil, {{Piece: -1}}, make([]api.Item, api.MaxItems+1)} {
		if st, at, e := cut.Run(l, items); !isZero(st) || at != 0 || e != want {
			t.Error("Run", name, st, at, e)
		}
		if e := cut.Check(l, items); e != want {
			t.Error("Check", name, e)
		}
		if falls, e := cut.Falls(l, items); len(falls) != 0 || e != want {
			t.Error("Falls", name, falls, e)
		}
		if n, e := cut.Length(l, items); n != 0 || e != want {
			t.Error("Length", name, n, e)
		}
	}
	if items, e := cut.Plan(l); len(items) != 0 || e != want {
		t.Error("Plan", name, items, e)
	}
}

func TestValidLayouts(t *testing.T) {
	full := piece(rect(0, 0, top, top))
	ring := piece(rect(20, 20, 50, 10), rect(20, 50, 50, 10), rect(20, 30, 10, 20), rect(60, 30, 10, 20))
	corners := sheet(100, 80)
	corners.Clamps = []api.Rect{rect(0, 0, 10, 10), rect(90, 0, 10, 10), rect(0, 70, 10, 10), rect(90, 70, 10, 10)}
	brass := piece(rect(10, 10, 5, 5))
	brass.Material, brass.Gauge, brass.Grain, corners.Grain = "brass", 60, api.GrainX, api.GrainY
	small := plates()
	small.Pieces = append(small.Pieces, slices.Repeat([]api.Piece{piece(rect(0, 0, 1, 1))}, 6)...)
	for i := 2; i < 8; i++ {
		small.Pieces[i].Rects = []api.Rect{rect(10+i, 0, 1, 1)}
	}
	for name, l := range map[string]api.Layout{
		"no pieces":                         {Sheet: sheet(1, 1)},
		"the whole sheet":                   {Sheet: sheet(top, top), Pieces: []api.Piece{full}},
		"between clamps":                    {Sheet: corners, Pieces: []api.Piece{piece(rect(10, 0, 80, 80)), piece(rect(0, 10, 10, 60)), piece(rect(90, 10, 10, 60))}},
		"another material and gauge":        {Sheet: corners, Pieces: []api.Piece{brass}},
		"in a ring":                         {Sheet: sheet(100, 80), Pieces: []api.Piece{ring, piece(rect(30, 30, 30, 20))}},
		"eight pieces":                      small,
		"a piece whose first is not lowest": {Sheet: sheet(100, 80), Pieces: []api.Piece{piece(rect(50, 50, 5, 5), rect(45, 50, 5, 5), rect(50, 45, 5, 5))}},
	} {
		if e := cut.Validate(l); e != api.OK {
			t.Error(name, e)
		}
	}
	// A piece is valid at any place of the sheet.
	x := plates().Pieces[0]
	for left := range 71 {
		for low := range 61 {
			put, e := nest.Put(moved(x, -20, -20), api.Placement{X: left, Y: low})
			if e != api.OK {
				t.Fatal(e)
			}
			if e := cut.Validate(api.Layout{Sheet: sheet(100, 80), Pieces: []api.Piece{put}}); e != api.OK {
				t.Error(left, low, e)
			}
		}
	}
}

// moved returns a piece that is moved by X and Y.
func moved(x api.Piece, dx, dy int) api.Piece {
	for _, l := range []*[]api.Rect{&x.Rects, &x.Cuts, &x.Forms} {
		*l = slices.Clone(*l)
		for i := range *l {
			(*l)[i].X += dx
			(*l)[i].Y += dy
		}
	}
	return x
}

// TestFarPieces holds the errors of pieces that are so far away or so large that they can't be moved or are not valid once they are.
func TestFarPieces(t *testing.T) {
	nameless := piece(rect(0, 0, 0, 1))
	nameless.Name = ""
	many := piece(append(slices.Repeat([]api.Rect{rect(0, 0, 1, 1)}, 99), rect(0, 0, 1, 0))...)
	cutFar, cutFarther, cutWild := piece(rect(50, 50, 20, 20)), piece(rect(50, 50, 20, 20)), piece(rect(50, 50, 20, 20))
	cutFar.Cuts, cutFarther.Cuts, cutWild.Cuts = []api.Rect{rect(top+48, 50, 2, 2)}, []api.Rect{rect(top+49, 50, 2, 2)}, []api.Rect{rect(math.MinInt+9, 55, 2, 2)}
	for _, x := range []struct {
		name string
		x    api.Piece
		want api.Errno
	}{
		{"it can't be moved, and has no name", nameless, api.ErrArg},
		{"it can't be moved, and has many rectangles", many, api.ErrArg},
		{"as wide as the range", piece(rect(-top, 0, 2*top, 1)), api.ErrArg},
		{"as high as the range", piece(rect(0, -top, 1, 2*top)), api.ErrArg},
		{"as wide as a sheet may be", piece(rect(-top/2, 0, top, 1)), api.ErrFit},
		{"a cut that is valid once it is moved", cutFar, api.ErrFit},
		{"a cut that is not", cutFarther, api.ErrArg},
		{"a cut that wraps", cutWild, api.ErrArg},
	} {
		if e := cut.Validate(api.Layout{Sheet: sheet(100, 80), Pieces: []api.Piece{x.x}}); e != x.want {
			t.Error(x.name, e)
		}
	}
}
