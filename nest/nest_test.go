package nest_test

import (
	"math"
	"math/rand"
	"reflect"
	"slices"
	"testing"

	"sheetmetal/api"
	"sheetmetal/nest"
)

const (
	top    = api.MaxTicks
	maxGap = api.MaxGap * api.Scale
)

// wild are numbers that are out of the range of any field.
var wild = []int{math.MinInt, math.MinInt + 1, -1 << 32, -top - 1, top + 1, 1 << 32, 1<<32 + 1, 1 << 62, math.MaxInt - 1, math.MaxInt}

func rect(x, y, w, h int) api.Rect {
	return api.Rect{X: x, Y: y, W: w, H: h}
}

// sheet returns an empty sheet.
func sheet(w, h int) api.Sheet {
	return api.Sheet{Name: "s", Material: "steel", Gauge: 10, Width: w, Height: h}
}

// piece returns a piece of rectangles.
func piece(l ...api.Rect) api.Piece {
	return api.Piece{Name: "p", Material: "steel", Gauge: 10, Rects: l}
}

// fault is a change that makes a value wrong. Of several faults, the one with the lowest rank decides.
type fault[T any] struct {
	name string
	rank int
	want api.Errno
	make func(*T)
}

// expectFaults holds that validate returns the error of each fault, and of each two faults that of the lower rank.
func expectFaults[T any](t *testing.T, valid func() T, l []fault[T], validate func(T) api.Errno) {
	t.Helper()
	if e := validate(valid()); e != api.OK {
		t.Error("valid", e)
	}
	for _, a := range l {
		x := valid()
		a.make(&x)
		if e := validate(x); e != a.want {
			t.Error(a.name, e)
		}
		for _, b := range l {
			if a.rank == b.rank {
				continue
			}
			y := valid()
			a.make(&y)
			b.make(&y)
			want := a.want
			if b.rank < a.rank {
				want = b.want
			}
			if e := validate(y); e != want {
				t.Errorf("%s, %s: %v, want %v", a.name, b.name, e, want)
			}
		}
	}
}

// some returns a sheet with a clamp and a used rectangle.
func some() api.Sheet {
	s := sheet(100, 80)
	s.Clamps, s.Used = []api.Rect{rect(0, 0, 10, 10)}, []api.Rect{rect(90, 0, 10, 80)}
	return s
}

// wrongLists are lists of sheets and pieces for which the functions that take both return an error.
func wrongLists() []struct {
	name   string
	sheets []api.Sheet
	pieces []api.Piece
	want   api.Errno
} {
	s, x := some(), piece(rect(0, 0, 9, 9))
	noName, noGauge, noFit := some(), some(), some()
	noName.Name, noGauge.Gauge, noFit.Used = "", 0, []api.Rect{rect(99, 0, 2, 1)}
	noMaterial, noRects, noShape := x, x, piece(rect(0, 0, 9, 9), rect(9, 9, 1, 1))
	noMaterial.Material, noRects.Rects = "", nil
	return []struct {
		name   string
		sheets []api.Sheet
		pieces []api.Piece
		want   api.Errno
	}{
		{"five sheets", slices.Repeat([]api.Sheet{s}, 5), nil, api.ErrLarge},
		{"nine pieces", []api.Sheet{s}, slices.Repeat([]api.Piece{x}, 9), api.ErrLarge},
		{"five wrong sheets", make([]api.Sheet, 5), nil, api.ErrLarge},
		{"a wrong sheet and nine pieces", []api.Sheet{noName}, slices.Repeat([]api.Piece{x}, 9), api.ErrLarge},
		{"five sheets and a wrong piece", slices.Repeat([]api.Sheet{s}, 5), []api.Piece{noMaterial}, api.ErrLarge},
		{"very many", make([]api.Sheet, 100000), make([]api.Piece, 100000), api.ErrLarge},
		{"a sheet without a name", []api.Sheet{s, noName}, []api.Piece{x}, api.ErrName},
		{"the first sheet counts", []api.Sheet{s, noGauge, noName}, []api.Piece{x}, api.ErrArg},
		{"the first sheet counts, whatever its error", []api.Sheet{noFit, noName, noGauge}, []api.Piece{x}, api.ErrFit},
		{"a sheet before a piece", []api.Sheet{s, noFit}, []api.Piece{noMaterial}, api.ErrFit},
		{"a piece without a material", []api.Sheet{s}, []api.Piece{x, noMaterial}, api.ErrName},
		{"the first piece counts", nil, []api.Piece{noRects, noMaterial}, api.ErrArg},
		{"the first piece counts, whatever its error", nil, []api.Piece{x, noShape, noRects, noMaterial}, api.ErrShape},
	}
}

// TestErrorsOfLists holds that the errors of sheets and pieces come before that of the settings, and all of them before those of placements.
func TestErrorsOfLists(t *testing.T) {
	wrong := []api.Placement{{Piece: -1}}
	for _, x := range wrongLists() {
		for _, set := range []api.Settings{{}, {Gap: -1}, {Margin: maxGap + 1}} {
			expectRefusal(t, x.name, x.sheets, x.pieces, set, x.want)
		}
		if more, e := nest.Exceeds(x.sheets, x.pieces); more || e != x.want {
			t.Error("Exceeds", x.name, more, e)
		}
	}
	for _, n := range append(wild, -1, maxGap+1) {
		for _, set := range []api.Settings{{Gap: n}, {Margin: n}, {Gap: n, Margin: n, Common: true}} {
			expectRefusal(t, "settings", []api.Sheet{some()}, []api.Piece{piece(rect(0, 0, 9, 9))}, set, api.ErrArg)
			expectRefusal(t, "settings alone", nil, nil, set, api.ErrArg)
		}
	}
	if i, e := nest.Check([]api.Sheet{some()}, nil, api.Settings{}, wrong); i != 0 || e != api.ErrArg {
		t.Error(i, e)
	}
}

func expectRefusal(t *testing.T, name string, sheets []api.Sheet, pieces []api.Piece, set api.Settings, want api.Errno) {
	t.Helper()
	for _, l := range [][]api.Placement{nil, {{}}, {{X: 20}, {Piece: -1}}, {{X: 20}, {}}} {
		if i, e := nest.Check(sheets, pieces, set, l); i != 0 || e != want {
			t.Error("Check", name, l, i, e)
		}
	}
	if l, left, e := nest.Nest(sheets, pieces, set); len(l) != 0 || len(left) != 0 || e != want {
		t.Error("Nest", name, l, left, e)
	}
}

func TestCheck(t *testing.T) {
	odd := sheet(100, 100)
	odd.Material = "brass"
	sheets := []api.Sheet{some(), sheet(60, 60), odd}
	x, y := piece(rect(0, 0, 30, 20)), piece(rect(0, 0, 10, 10), rect(10, 0, 20, 5))
	y.Cuts = []api.Rect{rect(2, 2, 4, 4)}
	pieces := []api.Piece{x, x, y}
	for _, c := range []struct {
		name string
		set  api.Settings
		l    []api.Placement
		i    int
		want api.Errno
	}{
		{"nothing", api.Settings{}, nil, 0, api.OK},
		{"one of three", api.Settings{}, []api.Placement{{Piece: 1, X: 10}}, 0, api.OK},
		{"beside a clamp", api.Settings{}, []api.Placement{{X: 10}}, 0, api.OK},
		{"above a clamp", api.Settings{}, []api.Placement{{Y: 10}}, 0, api.OK},
		{"on a clamp, by 1", api.Settings{}, []api.Placement{{X: 9, Y: 0}}, 0, api.ErrFit},
		{"on a clamp, by 1 in Y", api.Settings{}, []api.Placement{{Y: 9}}, 0, api.ErrFit},
		{"beside what is used", api.Settings{}, []api.Placement{{X: 60, Y: 60}}, 0, api.OK},
		{"on what is used, by 1", api.Settings{}, []api.Placement{{X: 61, Y: 60}}, 0, api.ErrFit},
		{"beyond the sheet", api.Settings{}, []api.Placement{{X: 60, Y: 61}}, 0, api.ErrFit},
		{"below the sheet", api.Settings{}, []api.Placement{{X: 20, Y: -1}}, 0, api.ErrFit},
		{"left of the sheet", api.Settings{}, []api.Placement{{X: -1, Y: 20}}, 0, api.ErrFit},
		{"between the margins", api.Settings{Margin: 15}, []api.Placement{{X: 15, Y: 15, Sheet: 1}}, 0, api.OK},
		{"between the margins, turned", api.Settings{Margin: 15}, []api.Placement{{X: 25, Y: 15, Sheet: 1, Turn: 1}}, 0, api.OK},
		{"between margins that are too wide", api.Settings{Margin: 16}, []api.Placement{{X: 16, Y: 16, Sheet: 1}}, 0, api.ErrFit},
		{"into the margin on the left", api.Settings{Margin: 10}, []api.Placement{{X: 9, Y: 20, Sheet: 1}}, 0, api.ErrFit},
		{"into the margin below", api.Settings{Margin: 10}, []api.Placement{{X: 10, Y: 9, Sheet: 1}}, 0, api.ErrFit},
		{"into the margin on the right", api.Settings{Margin: 10}, []api.Placement{{X: 21, Y: 10, Sheet: 1}}, 0, api.ErrFit},
		{"into the margin above", api.Settings{Margin: 10}, []api.Placement{{X: 10, Y: 31, Sheet: 1}}, 0, api.ErrFit},
		{"up to the margin", api.Settings{Margin: 10}, []api.Placement{{X: 20, Y: 30, Sheet: 1}}, 0, api.OK},
		{"a margin that leaves nothing", api.Settings{Margin: 30}, []api.Placement{{X: 30, Y: 30, Sheet: 1}}, 0, api.ErrFit},
		{"a margin wider than the sheet", api.Settings{Margin: maxGap}, []api.Placement{{X: 30, Y: 30, Sheet: 1}}, 0, api.ErrFit},
		{"another material", api.Settings{}, []api.Placement{{Sheet: 2}}, 0, api.ErrFit},
		{"no gap needed", api.Settings{}, []api.Placement{{Sheet: 1}, {Piece: 1, Sheet: 1, X: 30}}, 0, api.OK},
		{"overlapping", api.Settings{}, []api.Placement{{Sheet: 1}, {Piece: 1, Sheet: 1, X: 29}}, 1, api.ErrOverlap},
		{"the same place on two sheets", api.Settings{}, []api.Placement{{X: 10}, {Piece: 1, Sheet: 1, X: 10}}, 0, api.OK},
		{"with a gap", api.Settings{Gap: 7}, []api.Placement{{X: 10, Y: 10}, {Piece: 1, X: 47, Y: 10}}, 0, api.OK},
		{"with too small a gap", api.Settings{Gap: 7}, []api.Placement{{X: 10, Y: 10}, {Piece: 1, X: 46, Y: 10}}, 1, api.ErrOverlap},
		{"touching, with a gap", api.Settings{Gap: 7}, []api.Placement{{X: 10, Y: 10}, {Piece: 1, X: 40, Y: 10}}, 1, api.ErrOverlap},
		{"touching, which is allowed", api.Settings{Gap: 7, Common: true}, []api.Placement{{X: 10, Y: 10}, {Piece: 1, X: 40, Y: 10}}, 0, api.OK},
		{"almost touching", api.Settings{Gap: 7, Common: true}, []api.Placement{{X: 10, Y: 10}, {Piece: 1, X: 41, Y: 10}}, 1, api.ErrOverlap},
		{"the gap is not needed beside a clamp or the border", api.Settings{Gap: 7}, []api.Placement{{X: 10}}, 0, api.OK},
		{"the third one is in the first one's way", api.Settings{}, []api.Placement{{Sheet: 1}, {Piece: 1, Sheet: 1, Y: 20}, {Piece: 2, Sheet: 1, X: 20, Y: 10}}, 2, api.ErrOverlap},
		{"the notch of a piece is free", api.Settings{}, []api.Placement{{Piece: 2, Sheet: 1}, {Sheet: 1, X: 10, Y: 5}}, 0, api.OK},
		{"but not its foot", api.Settings{}, []api.Placement{{Piece: 2, Sheet: 1}, {Sheet: 1, X: 10, Y: 4}}, 1, api.ErrOverlap},
		{"a hole is not free", api.Settings{}, []api.Placement{{Piece: 2, Sheet: 1}, {Sheet: 1, X: 3, Y: 3}}, 1, api.ErrOverlap},
		{"no such piece", api.Settings{}, []api.Placement{{X: 10}, {Piece: 3}}, 1, api.ErrArg},
		{"no such sheet", api.Settings{}, []api.Placement{{X: 10}, {Piece: 1, Sheet: 3}}, 1, api.ErrArg},
		{"no such turn", api.Settings{}, []api.Placement{{X: 10, Turn: 4}}, 0, api.ErrArg},
		{"far away", api.Settings{}, []api.Placement{{X: top}}, 0, api.ErrArg},
		{"twice", api.Settings{}, []api.Placement{{X: 10}, {X: 10, Y: 40}}, 1, api.ErrOrder},
		{"twice, on two sheets", api.Settings{}, []api.Placement{{X: 10}, {Piece: 2, Sheet: 1}, {Sheet: 1, X: 30}}, 2, api.ErrOrder},
		{"twice, and far away", api.Settings{}, []api.Placement{{X: 10}, {X: top + 1}}, 1, api.ErrArg},
		{"twice, and no such turn", api.Settings{}, []api.Placement{{X: 10}, {X: 10, Turn: -1}}, 1, api.ErrArg},
		{"twice, and no such sheet", api.Settings{}, []api.Placement{{X: 10}, {X: 10, Sheet: -1}}, 1, api.ErrArg},
		{"twice, and beyond the sheet", api.Settings{}, []api.Placement{{X: 10}, {X: -1}}, 1, api.ErrOrder},
		{"twice, at the same place", api.Settings{}, []api.Placement{{X: 10}, {X: 10}}, 1, api.ErrOrder},
		{"on a clamp, and overlapping", api.Settings{}, []api.Placement{{X: 10}, {Piece: 1, X: 9}}, 1, api.ErrFit},
		{"the first wrong one counts", api.Settings{}, []api.Placement{{X: 10}, {Piece: 1, X: 10}, {Piece: 9}}, 1, api.ErrOverlap},
		{"the first wrong one counts, at the beginning", api.Settings{}, []api.Placement{{X: 9}, {X: 10}, {Piece: 9}}, 0, api.ErrFit},
		{"many", api.Settings{}, slices.Repeat([]api.Placement{{X: 10}}, 100000), 1, api.ErrOrder},
	} {
		if i, e := nest.Check(sheets, pieces, c.set, c.l); i != c.i || e != c.want {
			t.Error(c.name, i, e)
		}
	}
	for _, n := range wild {
		for _, at := range []api.Placement{{Piece: n}, {Sheet: n}, {X: n}, {Y: n}, {Turn: n}, {Piece: n, Sheet: n, X: n, Y: n, Turn: n}} {
			if i, e := nest.Check(sheets, pieces, api.Settings{}, []api.Placement{{Piece: 1, X: 10}, at}); i != 1 || e != api.ErrArg {
				t.Error(at, i, e)
			}
		}
	}
}

func TestCheckOfTurnsAndGrains(t *testing.T) {
	s, x := sheet(40, 40), piece(rect(0, 0, 30, 20))
	s.Grain, x.Grain = api.GrainY, api.GrainX
	for turn := range 4 {
		want := api.ErrFit
		if turn%2 == 1 {
			want = api.OK
		}
		if i, e := nest.Check([]api.Sheet{s}, []api.Piece{x}, api.Settings{}, []api.Placement{{Turn: turn}}); i != 0 || e != want {
			t.Error(turn, i, e)
		}
	}
	// Turned once, the piece is 20 by 30 and reaches beyond a sheet with the other dimensions.
	s, x.Grain = sheet(30, 20), api.AnyGrain
	for turn, want := range []api.Errno{api.OK, api.ErrFit, api.OK, api.ErrFit} {
		if i, e := nest.Check([]api.Sheet{s}, []api.Piece{x}, api.Settings{}, []api.Placement{{Turn: turn}}); i != 0 || e != want {
			t.Error(turn, i, e)
		}
	}
}

func TestNest(t *testing.T) {
	x, long, other := piece(rect(0, 0, 100, 50)), piece(rect(0, 0, 300, 20)), piece(rect(0, 0, 10, 10))
	other.Gauge = 20
	thick := sheet(50, 50)
	thick.Gauge = 20
	corner := piece(rect(0, 0, 20, 60), rect(20, 0, 40, 20))
	for _, c := range []struct {
		name   string
		sheets []api.Sheet
		pieces []api.Piece
		set    api.Settings
		l      []api.Placement
		left   []int
	}{
		{"nothing", nil, nil, api.Settings{}, nil, nil},
		{"no sheets", nil, []api.Piece{x, x}, api.Settings{}, nil, []int{0, 1}},
		{"no pieces", []api.Sheet{some()}, nil, api.Settings{}, nil, nil},
		{"one", []api.Sheet{sheet(1000, 1000)}, []api.Piece{x}, api.Settings{Margin: 10}, []api.Placement{{X: 10, Y: 10}}, nil},
		{"two", []api.Sheet{sheet(1000, 1000)}, []api.Piece{x, x}, api.Settings{Margin: 10, Gap: 5}, []api.Placement{{X: 10, Y: 10}, {Piece: 1, X: 115, Y: 10}}, nil},
		{"two that touch", []api.Sheet{sheet(1000, 1000)}, []api.Piece{x, x}, api.Settings{Margin: 10, Gap: 5, Common: true},
			[]api.Placement{{X: 10, Y: 10}, {Piece: 1, X: 110, Y: 10}}, nil},
		{"the first sheet with a place", []api.Sheet{thick, sheet(120, 60), sheet(120, 120)}, []api.Piece{x, x, other, x, long}, api.Settings{},
			[]api.Placement{{Sheet: 1}, {Piece: 1, Sheet: 2}, {Piece: 2}, {Piece: 3, Sheet: 2, Y: 50}}, []int{4}},
		{"a small one goes back to the first sheet", []api.Sheet{sheet(120, 60), sheet(120, 60)}, []api.Piece{x, x, piece(rect(0, 0, 20, 60))}, api.Settings{},
			[]api.Placement{{}, {Piece: 1, Sheet: 1}, {Piece: 2, X: 100}}, nil},
		{"a piece that is left does not stop those after it", []api.Sheet{sheet(120, 60)}, []api.Piece{long, x, long}, api.Settings{}, []api.Placement{{Piece: 1}}, []int{0, 2}},
		{"into the notch", []api.Sheet{sheet(60, 60)}, []api.Piece{corner, piece(rect(0, 0, 40, 40)), piece(rect(0, 0, 1, 1))}, api.Settings{},
			[]api.Placement{{}, {Piece: 1, X: 20, Y: 20}}, []int{2}},
		{"eight", []api.Sheet{sheet(100, 200), sheet(200, 100)}, slices.Repeat([]api.Piece{x}, 8), api.Settings{}, []api.Placement{
			{}, {Piece: 1, Y: 50}, {Piece: 2, Y: 100}, {Piece: 3, Y: 150}, {Piece: 4, Sheet: 1}, {Piece: 5, Sheet: 1, X: 100}, {Piece: 6, Sheet: 1, Y: 50}, {Piece: 7, Sheet: 1, X: 100, Y: 50}}, nil},
	} {
		l, left, e := nest.Nest(c.sheets, c.pieces, c.set)
		if e != api.OK || !slices.Equal(l, c.l) || !slices.Equal(left, c.left) {
			t.Error(c.name, l, left, e)
		}
	}
}

// randomSheet returns a small sheet with up to two clamps and up to three used rectangles.
func randomSheet(r *rand.Rand) api.Sheet {
	s := sheet(5+r.Intn(12), 5+r.Intn(12))
	s.Grain = r.Intn(3)
	block := func() api.Rect {
		x, y := r.Intn(s.Width), r.Intn(s.Height)
		return rect(x, y, 1+r.Intn(min(4, s.Width-x)), 1+r.Intn(min(4, s.Height-y)))
	}
	for range r.Intn(3) {
		s.Clamps = append(s.Clamps, block())
	}
	for range r.Intn(4) {
		s.Used = append(s.Used, block())
	}
	return s
}

// randomPiece returns a small piece of one to three rectangles.
func randomPiece(r *rand.Rand) api.Piece {
	for {
		var l []api.Rect
		for range 1 + r.Intn(3) {
			l = append(l, rect(r.Intn(5), r.Intn(5), 1+r.Intn(4), 1+r.Intn(4)))
		}
		x := piece(l...)
		x.Grain = r.Intn(3)
		if nest.ValidatePiece(x) == api.OK {
			return x
		}
	}
}

func randomSettings(r *rand.Rand) api.Settings {
	return api.Settings{Gap: r.Intn(4), Margin: r.Intn(3), Common: r.Intn(2) == 0}
}

// TestNestByFit holds Nest against Fit on each sheet, one piece after another.
func TestNestByFit(t *testing.T) {
	r := rand.New(rand.NewSource(61))
	placed, unplaced := 0, 0
	for range 400 {
		var sheets []api.Sheet
		for range r.Intn(4) {
			sheets = append(sheets, randomSheet(r))
		}
		var pieces []api.Piece
		for range r.Intn(9) {
			pieces = append(pieces, randomPiece(r))
		}
		set := randomSettings(r)
		l, left, e := nest.Nest(sheets, pieces, set)
		wantL, wantLeft := nestByFit(t, sheets, pieces, set)
		if e != api.OK || !slices.Equal(l, wantL) || !slices.Equal(left, wantLeft) {
			t.Error(sheets, pieces, set, l, left, e)
		}
		if i, e := nest.Check(sheets, pieces, set, l); i != 0 || e != api.OK {
			t.Error("Check", sheets, pieces, set, l, i, e)
		}
		if more, e := nest.Exceeds(sheets, pieces); e != api.OK || more && len(left) == 0 {
			t.Error("Exceeds", sheets, pieces, more, e)
		}
		placed, unplaced = placed+len(l), unplaced+len(left)
	}
	if placed < 300 || unplaced < 300 {
		t.Error("too few", placed, unplaced)
	}
}

// nestByFit is P6.7 in its own words.
func nestByFit(t *testing.T, sheets []api.Sheet, pieces []api.Piece, set api.Settings) ([]api.Placement, []int) {
	t.Helper()
	taken := make([][][]api.Rect, len(sheets))
	var l []api.Placement
	var left []int
next:
	for i, x := range pieces {
		for j, s := range sheets {
			at, found, e := nest.Fit(s, taken[j], x, set)
			if e != api.OK {
				t.Fatal(s, taken[j], x, e)
			}
			if !found {
				continue
			}
			put, e := nest.Put(x, at)
			if e != api.OK {
				t.Fatal(x, at, e)
			}
			taken[j] = append(taken[j], put.Rects)
			at.Piece, at.Sheet = i, j
			l = append(l, at)
			continue next
		}
		left = append(left, i)
	}
	return l, left
}

// TestArgumentsStay holds that no function changes its arguments or returns their memory, and that equal calls return the same.
func TestArgumentsStay(t *testing.T) {
	x := piece(rect(0, 0, 20, 20))
	x.Cuts, x.Forms = []api.Rect{rect(2, 2, 3, 3)}, []api.Rect{rect(9, 9, 1, 1)}
	sheets, pieces, l := []api.Sheet{some(), sheet(40, 40)}, []api.Piece{x, piece(rect(0, 0, 9, 9), rect(9, 0, 3, 3))}, []api.Placement{{X: 10}, {Piece: 1, Sheet: 1}}
	taken, set := [][]api.Rect{{rect(10, 0, 5, 5)}, {rect(20, 20, 5, 5)}}, api.Settings{Gap: 2}
	more := []api.Rect{rect(30, 30, 5, 5)}
	copies := func() []any {
		return []any{deep(sheets), deep(pieces), slices.Clone(l), slices.Clone(taken[0]), slices.Clone(taken[1]), slices.Clone(more)}
	}
	before := copies()
	call := func() []any {
		put, _ := nest.Put(pieces[0], api.Placement{X: 3, Y: 4, Turn: 3})
		same, _ := nest.Put(pieces[0], api.Placement{})
		rest, _ := nest.Remnant(sheets[0], more)
		all, _ := nest.Remnant(sheets[0], nil)
		at, found, _ := nest.Fit(sheets[0], taken, pieces[0], set)
		i, e := nest.Check(sheets, pieces, set, l)
		placed, left, _ := nest.Nest(sheets, pieces, set)
		lines, _ := nest.Common(taken[0], []api.Rect{rect(15, 0, 1, 3)})
		return []any{put, same, rest, all, at, found, i, e, placed, left, lines}
	}
	first := call()
	if second := call(); !reflect.DeepEqual(first, second) {
		t.Error(first, second)
	}
	for _, result := range first {
		switch y := result.(type) {
		case api.Piece:
			clear(y.Rects)
			clear(y.Cuts)
			clear(y.Forms)
		case api.Sheet:
			clear(y.Clamps)
			clear(y.Used)
		}
	}
	if after := copies(); !reflect.DeepEqual(before, after) {
		t.Error(before, after)
	}
}

// deep returns a copy of sheets or pieces with their lists.
func deep[T api.Sheet | api.Piece](l []T) []any {
	var result []any
	for _, x := range l {
		switch y := any(x).(type) {
		case api.Sheet:
			y.Clamps, y.Used = slices.Clone(y.Clamps), slices.Clone(y.Used)
			result = append(result, y)
		case api.Piece:
			y.Rects, y.Cuts, y.Forms = slices.Clone(y.Rects), slices.Clone(y.Cuts), slices.Clone(y.Forms)
			result = append(result, y)
		}
	}
	return result
}

// TestResultsOfRemnantShareNothing holds that Remnant returns new memory, even where a list has room at its end.
func TestResultsOfRemnantShareNothing(t *testing.T) {
	s := sheet(100, 100)
	s.Used = append(make([]api.Rect, 0, 8), rect(0, 0, 1, 1))
	a, _ := nest.Remnant(s, []api.Rect{rect(1, 1, 1, 1)})
	b, _ := nest.Remnant(s, []api.Rect{rect(2, 2, 2, 2)})
	if a.Used[1] != rect(1, 1, 1, 1) || b.Used[1] != rect(2, 2, 2, 2) || s.Used[:2][1] != (api.Rect{}) {
		t.Error(a, b, s)
	}
}
