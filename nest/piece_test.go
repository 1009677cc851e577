package nest_test

import (
	"math/rand"
	"reflect"
	"slices"
	"testing"

	"sheetmetal/api"
	"sheetmetal/flat"
	"sheetmetal/nest"
)

// channel returns the part u of the document, with a hole and a form.
func channel() api.Part {
	return api.Part{Name: "u", Material: "steel", Gauge: 10, Grain: api.GrainY, Width: 40, Height: 30, Flanges: []api.Flange{
		{Name: "a", Side: api.East, Width: 30, Length: 20, Angle: 90},
		{Name: "b", Side: api.West, Width: 30, Length: 20, Angle: 90},
	}, Holes: []api.Hole{
		{Face: 2, Kind: api.CutHole, X: 2, Y: 5, W: 3, H: 4},
		{Face: 0, Kind: api.FormHole, X: 1, Y: 1, W: 1, H: 1},
		{Face: 0, Kind: api.CutHole, X: 3, Y: 4, W: 5, H: 6},
	}}
}

// table has the deduction 7/2 for 90 degrees.
func table() api.BendTable {
	return api.BendTable{Material: "steel", Gauge: 10, Die: 8, Entries: []api.Entry{{Angle: 90, Num: 7, Den: 2}, {Angle: 120, Num: 5, Den: 2}}}
}

func TestPieceOf(t *testing.T) {
	want := api.Piece{Name: "u", Material: "steel", Gauge: 10, Grain: api.GrainY,
		Rects: []api.Rect{rect(11880, 0, 28800, 21600), rect(40680, 0, 11880, 21600), rect(0, 0, 11880, 21600)},
		Cuts:  []api.Rect{rect(11880-1080-2880, 1440, 2880, 2160), rect(11880+2160, 2880, 3600, 4320)},
		Forms: []api.Rect{rect(11880+720, 720, 720, 720)},
	}
	got, e := nest.PieceOf(channel(), table())
	if e != api.OK || !reflect.DeepEqual(got, want) {
		t.Error(got, e)
	}
	if e := nest.ValidatePiece(got); e != api.OK {
		t.Error(e)
	}
	plain := api.Part{Name: "p", Material: "steel", Gauge: 10, Width: 2, Height: 1}
	got, e = nest.PieceOf(plain, table())
	if e != api.OK || got.Name != "p" || got.Grain != api.AnyGrain || !slices.Equal(got.Rects, []api.Rect{rect(0, 0, 1440, 720)}) || len(got.Cuts)+len(got.Forms) != 0 {
		t.Error(got, e)
	}
}

func TestErrorsOfPieceOf(t *testing.T) {
	noTable, otherTable, lowTable := table(), table(), table()
	noTable.Die, otherTable.Gauge, lowTable.Entries = 0, 11, []api.Entry{{Angle: 60, Den: 1}}
	noPart, noGrain, short, over, bend := channel(), channel(), channel(), channel(), channel()
	noPart.Name, noGrain.Grain = "", 3
	short.Flanges[0].Length = 3
	bend.Holes[0].Y = 3
	over.Flanges[0].Width, over.Flanges[1].Width = 15, 15
	over.Flanges[1].Side, over.Flanges[1].Offset, over.Holes = api.East, 15, nil
	for _, x := range []struct {
		name string
		p    api.Part
		t    api.BendTable
		want api.Errno
	}{
		{"no part", noPart, table(), api.ErrName},
		{"no part, no table", noPart, noTable, api.ErrName},
		{"no grain", noGrain, table(), api.ErrArg},
		{"no table", channel(), noTable, api.ErrTable},
		{"the table of another gauge", channel(), otherTable, api.ErrTable},
		{"no such angle", channel(), lowTable, api.ErrNone},
		{"no such angle, and short", short, lowTable, api.ErrNone},
		{"short", short, table(), api.ErrShort},
		{"a hole in the bend", bend, table(), api.ErrShort},
		{"two flanges side by side, without a gap", over, table(), api.ErrOverlap},
	} {
		if got, e := nest.PieceOf(x.p, x.t); e != x.want || !reflect.DeepEqual(got, api.Piece{}) {
			t.Error(x.name, got, e)
		}
	}
}

// randomPart returns a part of up to three flanges and two holes, which may be not valid.
func randomPart(r *rand.Rand) api.Part {
	p := api.Part{Name: "r", Material: "steel", Gauge: 10, Grain: r.Intn(3), Width: 10 + r.Intn(30), Height: 10 + r.Intn(30)}
	for i := range r.Intn(4) {
		p.Flanges = append(p.Flanges, api.Flange{Name: string(rune('a' + i)), Parent: r.Intn(i + 1), Side: r.Intn(4), Offset: r.Intn(6), Width: 1 + r.Intn(15), Length: 4 + r.Intn(15), Angle: 90 - 180*r.Intn(2)})
	}
	for range r.Intn(3) {
		p.Holes = append(p.Holes, api.Hole{Face: r.Intn(len(p.Flanges) + 1), Kind: 1 + r.Intn(2), X: 1 + r.Intn(9), Y: 1 + r.Intn(9), W: 1 + r.Intn(5), H: 1 + r.Intn(5)})
	}
	return p
}

// TestPiecesOfParts holds PieceOf against Unfold and Settle, and that ValidatePiece accepts what it returns.
func TestPiecesOfParts(t *testing.T) {
	r := rand.New(rand.NewSource(63))
	met := map[api.Errno]int{}
	for range 4000 {
		p := randomPart(r)
		f, want := flat.Unfold(p, table())
		f, _ = flat.Settle(f)
		got, e := nest.PieceOf(p, table())
		met[e]++
		if e != want || !slices.Equal(got.Rects, f.Rects) || !slices.Equal(got.Cuts, f.Cuts) || !slices.Equal(got.Forms, f.Forms) {
			t.Error(p, got, e, want)
		}
		if e == api.OK && (nest.ValidatePiece(got) != api.OK || got.Name != "r" || got.Material != "steel" || got.Gauge != 10 || got.Grain != p.Grain) {
			t.Error(p, got)
		}
	}
	for _, e := range []api.Errno{api.OK, api.ErrArg, api.ErrOverlap, api.ErrShort} {
		if met[e] < 20 {
			t.Error("too few", e, met)
		}
	}
}

// turned returns what becomes of rectangles by quarter turns about 0, 0 and a move after which their smallest X and Y are x and y.
func turned(l, all []api.Rect, turns, x, y int) []api.Rect {
	once := func(l []api.Rect) []api.Rect {
		var result []api.Rect
		for _, r := range l {
			result = append(result, rect(-r.Y-r.H, r.X, r.H, r.W))
		}
		return result
	}
	for range turns {
		l, all = once(l), once(all)
	}
	l = slices.Clone(l)
	left, low := all[0].X, all[0].Y
	for _, r := range all {
		left, low = min(left, r.X), min(low, r.Y)
	}
	moveRects(l, x-left, y-low)
	return l
}

func TestPut(t *testing.T) {
	r := rand.New(rand.NewSource(64))
	pieces := []api.Piece{plate(), piece(rect(0, 0, 1, 1)), piece(rect(0, 5, 8, 5), rect(5, 0, 5, 5))}
	for range 200 {
		pieces = append(pieces, randomPiece(r))
	}
	for _, x := range pieces {
		for turn := range 4 {
			for _, at := range []api.Placement{{}, {X: 7, Y: 9}, {X: -7, Y: -9}, {X: -top, Y: top - 100}, {X: top - 100, Y: -top, Piece: -5, Sheet: wild[0]}, {Piece: 3, Sheet: 4}} {
				at.Turn = turn
				got, e := nest.Put(x, at)
				want := x
				want.Rects = turned(x.Rects, x.Rects, turn, at.X, at.Y)
				want.Cuts = turned(x.Cuts, x.Rects, turn, at.X, at.Y)
				want.Forms = turned(x.Forms, x.Rects, turn, at.X, at.Y)
				if e != api.OK || !samePiece(got, want) {
					t.Error(x, at, got, want, e)
				}
			}
		}
	}
}

func samePiece(a, b api.Piece) bool {
	return a.Name == b.Name && a.Material == b.Material && a.Gauge == b.Gauge && a.Grain == b.Grain &&
		slices.Equal(a.Rects, b.Rects) && slices.Equal(a.Cuts, b.Cuts) && slices.Equal(a.Forms, b.Forms)
}

func TestErrorsOfPut(t *testing.T) {
	wide := piece(rect(0, 0, 50, 20))
	type call struct {
		x  api.Piece
		at api.Placement
	}
	for _, c := range []struct {
		call
		want api.Errno
	}{
		{call{wide, api.Placement{X: top - 50, Y: top - 20}}, api.OK},
		{call{wide, api.Placement{X: top - 49}}, api.ErrLarge},
		{call{wide, api.Placement{Y: top - 19}}, api.ErrLarge},
		{call{wide, api.Placement{X: top - 20, Y: top - 50, Turn: 1}}, api.OK},
		{call{wide, api.Placement{X: top - 19, Turn: 1}}, api.ErrLarge},
		{call{wide, api.Placement{Y: top - 49, Turn: 3}}, api.ErrLarge},
		{call{wide, api.Placement{X: -top, Y: -top, Turn: 2}}, api.OK},
		{call{wide, api.Placement{X: -top - 1}}, api.ErrLarge},
		{call{wide, api.Placement{Y: -top - 1, Turn: 1}}, api.ErrLarge},
		{call{wide, api.Placement{X: top}}, api.ErrLarge},
		{call{wide, api.Placement{Y: top + 1}}, api.ErrLarge},
		{call{piece(rect(0, 0, top, top)), api.Placement{Turn: 1}}, api.OK},
		{call{piece(rect(0, 0, top, top)), api.Placement{X: 1}}, api.ErrLarge},
		{call{piece(rect(0, 0, top, 5)), api.Placement{X: top - 5, Turn: 3}}, api.OK},
		{call{wide, api.Placement{Turn: -1}}, api.ErrArg},
		{call{wide, api.Placement{Turn: 4}}, api.ErrArg},
		{call{wide, api.Placement{X: top + 1, Y: top, Turn: 4}}, api.ErrArg},
		{call{piece(), api.Placement{Turn: 4}}, api.ErrArg},
		{call{piece(rect(0, 0, 9, 9), rect(9, 9, 9, 9)), api.Placement{X: top + 1, Turn: 4}}, api.ErrShape},
		{call{api.Piece{}, api.Placement{X: top + 1}}, api.ErrName},
	} {
		if got, e := nest.Put(c.x, c.at); e != c.want || e != api.OK && !reflect.DeepEqual(got, api.Piece{}) {
			t.Error(c.x, c.at, got, e)
		}
	}
	for _, n := range wild {
		for at, want := range map[api.Placement]api.Errno{{X: n}: api.ErrLarge, {Y: n}: api.ErrLarge, {X: n, Y: n}: api.ErrLarge, {Turn: n}: api.ErrArg, {X: n, Turn: n}: api.ErrArg} {
			if got, e := nest.Put(plate(), at); e != want || !reflect.DeepEqual(got, api.Piece{}) {
				t.Error(at, got, e)
			}
		}
	}
	for _, f := range pieceFaults() {
		x := plate()
		f.make(&x)
		if got, e := nest.Put(x, api.Placement{X: top + 1, Turn: 4}); e != f.want || !reflect.DeepEqual(got, api.Piece{}) {
			t.Error(f.name, got, e)
		}
	}
}

func TestAllowed(t *testing.T) {
	for _, x := range []struct {
		piece, sheet int
		want         [4]bool
	}{
		{api.AnyGrain, api.AnyGrain, [4]bool{true, true, true, true}},
		{api.AnyGrain, api.GrainX, [4]bool{true, true, true, true}},
		{api.AnyGrain, api.GrainY, [4]bool{true, true, true, true}},
		{api.GrainX, api.AnyGrain, [4]bool{true, true, true, true}},
		{api.GrainY, api.AnyGrain, [4]bool{true, true, true, true}},
		{api.GrainX, api.GrainX, [4]bool{true, false, true, false}},
		{api.GrainY, api.GrainY, [4]bool{true, false, true, false}},
		{api.GrainX, api.GrainY, [4]bool{false, true, false, true}},
		{api.GrainY, api.GrainX, [4]bool{false, true, false, true}},
		{9, 9, [4]bool{true, false, true, false}},
		{9, -9, [4]bool{false, true, false, true}},
		{9, api.AnyGrain, [4]bool{true, true, true, true}},
	} {
		// No other field matters, and none has to be valid.
		p, s := api.Piece{Material: "?", Gauge: -4, Grain: x.piece}, api.Sheet{Material: "?", Gauge: -4, Grain: x.sheet}
		for turn, want := range x.want {
			if got := nest.Allowed(p, s, turn); got != want {
				t.Error(x, turn, got)
			}
		}
		for _, turn := range append([]int{-1, -2, 4, 5, 6}, wild...) {
			if nest.Allowed(p, s, turn) {
				t.Error(x, turn)
			}
		}
		other, thick := s, s
		other.Material, thick.Gauge = "", 4
		for turn := range 4 {
			if nest.Allowed(p, other, turn) || nest.Allowed(p, thick, turn) {
				t.Error(x, turn)
			}
		}
	}
	if !nest.Allowed(piece(rect(0, 0, 1, 1)), sheet(1, 1), 3) || !nest.Allowed(api.Piece{}, api.Sheet{}, 0) {
		t.Error("not allowed")
	}
}

func TestClear(t *testing.T) {
	one := []api.Rect{rect(10, 10, 10, 10)}
	for _, x := range []struct {
		name string
		a, b []api.Rect
		set  api.Settings
		want bool
	}{
		{"nothing", nil, nil, api.Settings{Gap: 5}, true},
		{"nothing beside it", one, nil, api.Settings{Gap: 5}, true},
		{"touching", one, []api.Rect{rect(20, 10, 5, 5)}, api.Settings{}, true},
		{"touching, with a gap", one, []api.Rect{rect(20, 10, 5, 5)}, api.Settings{Gap: 1}, false},
		{"touching, which is allowed", one, []api.Rect{rect(20, 10, 5, 5)}, api.Settings{Gap: 1, Common: true}, true},
		{"corner at corner", one, []api.Rect{rect(20, 20, 5, 5)}, api.Settings{Gap: 1}, false},
		{"corner at corner, which is allowed", one, []api.Rect{rect(20, 20, 5, 5)}, api.Settings{Gap: 1, Common: true}, true},
		{"the same", one, one, api.Settings{Common: true}, false},
		{"overlapping by 1", one, []api.Rect{rect(19, 10, 5, 5)}, api.Settings{Common: true}, false},
		{"overlapping by 1, without Common", one, []api.Rect{rect(19, 10, 5, 5)}, api.Settings{}, false},
		{"the gap", one, []api.Rect{rect(25, 10, 5, 5)}, api.Settings{Gap: 5}, true},
		{"less than the gap", one, []api.Rect{rect(24, 10, 5, 5)}, api.Settings{Gap: 5}, false},
		{"less than the gap, with Common", one, []api.Rect{rect(24, 10, 5, 5)}, api.Settings{Gap: 5, Common: true}, false},
		{"the gap in X alone", one, []api.Rect{rect(25, 22, 5, 5)}, api.Settings{Gap: 5}, true},
		{"the gap in Y alone", one, []api.Rect{rect(23, 25, 5, 5)}, api.Settings{Gap: 5}, true},
		{"the gap in neither", one, []api.Rect{rect(24, 24, 5, 5)}, api.Settings{Gap: 5}, false},
		{"one of two is too close", one, []api.Rect{rect(40, 40, 5, 5), rect(10, 24, 5, 5)}, api.Settings{Gap: 5}, false},
		{"one touches, one is too close", one, []api.Rect{rect(20, 10, 5, 5), rect(10, 24, 5, 5)}, api.Settings{Gap: 5, Common: true}, false},
		{"one touches, one is far", one, []api.Rect{rect(20, 10, 5, 5), rect(10, 25, 5, 5)}, api.Settings{Gap: 5, Common: true}, true},
		{"those of one list may be close", []api.Rect{rect(0, 0, 5, 5), rect(3, 3, 5, 5)}, []api.Rect{rect(20, 20, 5, 5), rect(21, 20, 5, 5)}, api.Settings{Gap: 12}, true},
		{"not valid, at the distance 0", []api.Rect{rect(0, 0, 0, 0)}, one, api.Settings{}, true},
		{"not valid, with a gap", []api.Rect{rect(50, 50, 0, 0)}, one, api.Settings{Gap: 1}, false},
		{"not valid, with a gap and Common", []api.Rect{rect(12, 12, -1, 5)}, one, api.Settings{Gap: 1, Common: true}, true},
		{"a gap below 0", one, []api.Rect{rect(21, 10, 5, 5)}, api.Settings{Gap: -5}, true},
		{"a gap below 0, overlapping", one, []api.Rect{rect(19, 10, 5, 5)}, api.Settings{Gap: -5, Common: true}, false},
		{"the greatest gap there is", one, []api.Rect{rect(21, 10, 5, 5)}, api.Settings{Gap: wild[9], Margin: wild[0]}, false},
	} {
		if got := nest.Clear(x.a, x.b, x.set); got != x.want {
			t.Error(x.name, got)
		}
		if got := nest.Clear(x.b, x.a, x.set); got != x.want {
			t.Error(x.name, "the other way round", got)
		}
	}
}

// gap returns how far the intervals are apart, below 0 if they overlap.
func gap(a, aLength, b, bLength int) int {
	return max(b-a-aLength, a-b-bLength)
}

// apart is Clear for two rectangles, in the words of P6.4.
func apart(a, b api.Rect, set api.Settings) bool {
	x, y := gap(a.X, a.W, b.X, b.W), gap(a.Y, a.H, b.Y, b.H)
	d := max(x, y)
	return d >= set.Gap || set.Common && d == 0
}

func TestClearOfAllPlaces(t *testing.T) {
	a := rect(8, 8, 3, 2)
	for _, set := range []api.Settings{{}, {Gap: 1}, {Gap: 2}, {Gap: 3}, {Common: true}, {Gap: 1, Common: true}, {Gap: 2, Common: true}, {Gap: 3, Common: true}} {
		for x := range 20 {
			for y := range 20 {
				for _, b := range []api.Rect{rect(x, y, 1, 1), rect(x, y, 4, 5)} {
					if got := nest.Clear([]api.Rect{a}, []api.Rect{b}, set); got != apart(a, b, set) {
						t.Error(set, b, got)
					}
				}
			}
		}
	}
}
