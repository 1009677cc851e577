package nest_test

import (
	"math/rand"
	"slices"
	"testing"

	"sheetmetal/api"
	"sheetmetal/nest"
)

func TestFit(t *testing.T) {
	x, square := piece(rect(0, 0, 100, 50)), piece(rect(0, 0, 50, 50))
	grained := x
	grained.Grain = api.GrainX
	along, across, brass, thick := sheet(100, 100), sheet(100, 100), sheet(100, 100), sheet(100, 100)
	along.Grain, across.Grain, brass.Material, thick.Gauge = api.GrainX, api.GrainY, "brass", 11
	clamped, used := sheet(200, 100), sheet(200, 100)
	clamped.Clamps, used.Used = []api.Rect{rect(0, 0, 20, 10)}, []api.Rect{rect(100, 40, 100, 10), rect(0, 0, 1, 1)}
	angle := piece(rect(0, 0, 10, 30), rect(10, 0, 20, 10))
	for _, c := range []struct {
		name  string
		s     api.Sheet
		taken [][]api.Rect
		x     api.Piece
		set   api.Settings
		want  api.Placement
		found bool
	}{
		{"an empty sheet", sheet(1000, 1000), nil, x, api.Settings{Margin: 10}, api.Placement{X: 10, Y: 10}, true},
		{"beside another one", sheet(1000, 1000), [][]api.Rect{{rect(10, 10, 100, 50)}}, x, api.Settings{Margin: 10, Gap: 5}, api.Placement{X: 115, Y: 10}, true},
		{"touching another one", sheet(1000, 1000), [][]api.Rect{{rect(10, 10, 100, 50)}}, x, api.Settings{Margin: 10, Gap: 5, Common: true}, api.Placement{X: 110, Y: 10}, true},
		{"between two, touching both", sheet(1000, 1000), [][]api.Rect{{rect(0, 0, 100, 50)}, {rect(200, 0, 100, 50)}}, x, api.Settings{Gap: 5, Common: true}, api.Placement{X: 100}, true},
		{"between two, touching one, too close to the other", sheet(1000, 1000), [][]api.Rect{{rect(0, 0, 100, 50)}, {rect(203, 0, 100, 50)}}, piece(rect(0, 0, 100, 100)), api.Settings{Gap: 5, Common: true}, api.Placement{X: 303}, true},
		{"between two, touching one, with the gap to the other", sheet(1000, 1000), [][]api.Rect{{rect(0, 0, 100, 50)}, {rect(206, 0, 100, 50)}}, piece(rect(0, 0, 100, 100)), api.Settings{Gap: 6, Common: true}, api.Placement{X: 100}, true},
		{"only touching below is right", sheet(100, 200), [][]api.Rect{{rect(0, 100, 100, 100)}}, piece(rect(0, 0, 97, 97)), api.Settings{Gap: 5, Common: true}, api.Placement{Y: 3}, true},
		{"only touching on the right is right", sheet(200, 100), [][]api.Rect{{rect(100, 0, 100, 100)}}, piece(rect(0, 0, 97, 97)), api.Settings{Gap: 5, Common: true}, api.Placement{X: 3}, true},
		{"corner at corner", sheet(100, 100), [][]api.Rect{{rect(0, 0, 50, 47)}}, square, api.Settings{Gap: 5, Common: true}, api.Placement{X: 50}, true},
		{"the whole sheet", sheet(100, 50), nil, x, api.Settings{}, api.Placement{}, true},
		{"the whole sheet, turned", sheet(50, 100), nil, x, api.Settings{}, api.Placement{Turn: 1}, true},
		{"by 1 too narrow", sheet(99, 50), nil, x, api.Settings{}, api.Placement{}, false},
		{"by 1 too narrow, turned", sheet(50, 99), nil, x, api.Settings{}, api.Placement{}, false},
		{"the whole sheet without its margin", sheet(120, 70), nil, x, api.Settings{Margin: 10}, api.Placement{X: 10, Y: 10}, true},
		{"by 1 too wide a margin", sheet(120, 70), nil, x, api.Settings{Margin: 11}, api.Placement{}, false},
		{"a margin that leaves nothing", sheet(100, 100), nil, piece(rect(0, 0, 1, 1)), api.Settings{Margin: 50}, api.Placement{}, false},
		{"a margin wider than the sheet", sheet(100, 100), nil, piece(rect(0, 0, 1, 1)), api.Settings{Margin: maxGap}, api.Placement{}, false},
		{"a margin that leaves 1 in X and nothing in Y", sheet(101, 100), nil, piece(rect(0, 0, 1, 1)), api.Settings{Margin: 50}, api.Placement{}, false},
		{"a margin that leaves 1", sheet(101, 101), nil, piece(rect(0, 0, 1, 1)), api.Settings{Margin: 50}, api.Placement{X: 50, Y: 50}, true},
		{"along the grain", along, nil, grained, api.Settings{}, api.Placement{}, true},
		{"across the grain", across, nil, grained, api.Settings{}, api.Placement{Turn: 1}, true},
		{"another material", brass, nil, x, api.Settings{}, api.Placement{}, false},
		{"another gauge", thick, nil, x, api.Settings{}, api.Placement{}, false},
		{"beside a clamp", clamped, nil, x, api.Settings{Gap: 9}, api.Placement{X: 20}, true},
		{"above a clamp", clamped, nil, piece(rect(0, 0, 200, 50)), api.Settings{Gap: 9}, api.Placement{Y: 10}, true},
		{"beside what is used", used, nil, x, api.Settings{Gap: 9}, api.Placement{X: 1, Turn: 1}, true},
		{"above what is used", used, nil, piece(rect(0, 0, 200, 50)), api.Settings{}, api.Placement{Y: 50}, true},
		{"a sheet that is used up", withUsed(sheet(100, 100), rect(0, 0, 100, 100)), nil, piece(rect(0, 0, 1, 1)), api.Settings{}, api.Placement{}, false},
		{"the last spot", withUsed(sheet(100, 100), rect(0, 0, 100, 99), rect(0, 99, 99, 1)), nil, piece(rect(0, 0, 1, 1)), api.Settings{}, api.Placement{X: 99, Y: 99}, true},
		{"a smaller Y before a smaller X", withUsed(sheet(200, 200), rect(0, 0, 60, 10)), nil, x, api.Settings{}, api.Placement{X: 60}, true},
		{"a smaller Y of a later turn", withUsed(sheet(200, 200), rect(0, 0, 120, 10)), nil, x, api.Settings{}, api.Placement{X: 120, Turn: 1}, true},
		{"a smaller X of a later turn", withUsed(sheet(300, 200), rect(100, 0, 1, 50)), nil, piece(rect(0, 0, 110, 60)), api.Settings{}, api.Placement{Turn: 1}, true},
		{"of a square the smallest turn", sheet(60, 60), nil, square, api.Settings{}, api.Placement{}, true},
		{"an angle about a block", withUsed(sheet(30, 30), rect(10, 10, 20, 20)), nil, angle, api.Settings{}, api.Placement{}, true},
		{"an angle about a block, turned once", withUsed(sheet(30, 30), rect(0, 10, 20, 20)), nil, angle, api.Settings{}, api.Placement{Turn: 1}, true},
		{"an angle about a block, turned twice", withUsed(sheet(30, 30), rect(0, 0, 20, 20)), nil, angle, api.Settings{}, api.Placement{Turn: 2}, true},
		{"an angle about a block, turned three times", withUsed(sheet(30, 30), rect(10, 0, 20, 20)), nil, angle, api.Settings{}, api.Placement{Turn: 3}, true},
		{"taken rectangles beyond the sheet", sheet(100, 100), [][]api.Rect{{rect(-top, -top, 2*top, top)}, {rect(-top, -5, top, 2*5)}}, square, api.Settings{Gap: 7}, api.Placement{X: 7, Y: 7}, true},
		{"a gap beyond the whole sheet", sheet(100, 100), [][]api.Rect{{rect(-1, -1, 1, 1)}}, piece(rect(0, 0, 1, 1)), api.Settings{Gap: 200}, api.Placement{}, false},
		{"empty lists", sheet(100, 100), make([][]api.Rect, 8), square, api.Settings{Gap: 7}, api.Placement{}, true},
		{"the largest sheet", sheet(top, top), nil, piece(rect(0, 0, top, top)), api.Settings{}, api.Placement{}, true},
		{"far away on the largest sheet", withUsed(sheet(top, top), rect(0, 0, top-7, top), rect(top-7, 0, 7, top-3)), nil, piece(rect(0, 0, 2, 3)), api.Settings{}, api.Placement{X: top - 7, Y: top - 3}, true},
		{"between far pieces", sheet(top, top), [][]api.Rect{{rect(0, 0, top/2, top)}, {rect(top/2+500, 0, top/2-500, top)}}, piece(rect(0, 0, 300, 480)), api.Settings{Gap: 100}, api.Placement{X: top/2 + 100}, true},
	} {
		at, found, e := nest.Fit(c.s, c.taken, c.x, c.set)
		if e != api.OK || at != c.want || found != c.found {
			t.Error(c.name, at, found, e)
		}
	}
}

// withUsed returns a sheet after rectangles have been used.
func withUsed(s api.Sheet, l ...api.Rect) api.Sheet {
	s.Used = l
	return s
}

// fitByTrial returns the first placement, in the order of Y, X and Turn, that is right in the words of P6.5 and P6.6.
func fitByTrial(s api.Sheet, taken [][]api.Rect, x api.Piece, set api.Settings) (api.Placement, bool) {
	for y := range s.Height {
		for left := range s.Width {
			for turn := range 4 {
				at := api.Placement{X: left, Y: y, Turn: turn}
				if nest.Allowed(x, s, turn) && isRight(s, taken, turned(x.Rects, x.Rects, turn, left, y), set) {
					return at, true
				}
			}
		}
	}
	return api.Placement{}, false
}

// isRight reports whether rectangles lie well on a sheet and are clear of taken.
func isRight(s api.Sheet, taken [][]api.Rect, l []api.Rect, set api.Settings) bool {
	for _, r := range l {
		if r.X < set.Margin || r.Y < set.Margin || r.X+r.W > s.Width-set.Margin || r.Y+r.H > s.Height-set.Margin {
			return false
		}
		for _, b := range slices.Concat(s.Clamps, s.Used) {
			if !apart(r, b, api.Settings{}) {
				return false
			}
		}
		for _, b := range slices.Concat(taken...) {
			if !apart(r, b, set) {
				return false
			}
		}
	}
	return true
}

func TestFitByTrial(t *testing.T) {
	r := rand.New(rand.NewSource(66))
	met := map[bool]int{}
	for range 3000 {
		s, x, set := randomSheet(r), randomPiece(r), randomSettings(r)
		var taken [][]api.Rect
		for range r.Intn(4) {
			var l []api.Rect
			for range r.Intn(3) {
				l = append(l, rect(r.Intn(18)-2, r.Intn(18)-2, 1+r.Intn(5), 1+r.Intn(5)))
			}
			taken = append(taken, l)
		}
		at, found, e := nest.Fit(s, taken, x, set)
		want, wantFound := fitByTrial(s, taken, x, set)
		if e != api.OK || at != want || found != wantFound {
			t.Error(s, taken, x, set, at, found, want, wantFound)
		}
		met[found]++
	}
	if met[true] < 500 || met[false] < 500 {
		t.Error("too few", met)
	}
}

// TestFitAmongMany holds that Fit finds the only place, or none, among as many rectangles as there may be.
func TestFitAmongMany(t *testing.T) {
	const step = 4001
	var l []api.Rect
	for i := range 12 {
		l = append(l, rect(i*6, i*13, 7, 13)) // each one touches the next
	}
	x := piece(l...)
	s := sheet(12*step-400, 12*step-400)
	for i := range api.MaxRects {
		s.Used = append(s.Used, rect(i%12*step+i, i/12*step+3*i, 3000, 3000))
	}
	for i := range api.MaxClamps {
		s.Clamps = append(s.Clamps, rect(i*step+5*i, 11*step+7*i, 2999, 2900))
	}
	var taken [][]api.Rect
	for i := range api.MaxPieces {
		var others []api.Rect
		for j := range 12 {
			others = append(others, rect(j*step+11*i, (4+i)*step+9*j, 2950, 2970))
		}
		taken = append(taken, others)
	}
	set := api.Settings{Gap: 600, Common: true}
	at, found, e := nest.Fit(s, taken, x, set)
	if !found || e != api.OK {
		t.Fatal(at, found, e)
	}
	put, _ := nest.Put(x, at)
	if !isRight(s, taken, put.Rects, set) {
		t.Error(at)
	}
	// A piece of the same number of rectangles that reaches through all rows: no column is wide enough.
	for i := range l {
		l[i].Y, l[i].H = 3900*i, 3900
	}
	x = piece(l...)
	x.Grain, s.Grain = api.GrainX, api.GrainX
	if at, found, e := nest.Fit(s, taken, x, set); found || e != api.OK || at != (api.Placement{}) {
		t.Error(at, found, e)
	}
}

func TestErrorsOfFit(t *testing.T) {
	noSheet, noSheetFit, noPiece := some(), some(), plate()
	noSheet.Name, noSheetFit.Clamps, noPiece.Material = "", []api.Rect{rect(99, 0, 2, 1)}, ""
	bad, many, long := [][]api.Rect{nil, {rect(0, 0, 1, 1), rect(0, 0, 0, 1)}}, make([][]api.Rect, 9), [][]api.Rect{{rect(0, 0, 0, 0)}, make([]api.Rect, 13)}
	wrong := api.Settings{Gap: -1}
	for _, x := range []struct {
		name  string
		s     api.Sheet
		taken [][]api.Rect
		x     api.Piece
		set   api.Settings
		want  api.Errno
	}{
		{"no sheet, and all else", noSheet, many, noPiece, wrong, api.ErrName},
		{"no sheet, whatever its error", noSheetFit, many, noPiece, wrong, api.ErrFit},
		{"nine lists, and all else", some(), many, noPiece, wrong, api.ErrLarge},
		{"nine lists", some(), many, plate(), api.Settings{}, api.ErrLarge},
		{"very many lists", some(), make([][]api.Rect, 100000), plate(), api.Settings{}, api.ErrLarge},
		{"a long list after one that is not valid, and all else", some(), long, noPiece, wrong, api.ErrLarge},
		{"a long list", some(), long[1:], plate(), api.Settings{}, api.ErrLarge},
		{"a rectangle that is not valid, and all else", some(), bad, noPiece, wrong, api.ErrArg},
		{"a rectangle that is not valid", some(), bad, plate(), api.Settings{}, api.ErrArg},
		{"no piece", some(), nil, noPiece, wrong, api.ErrName},
		{"the settings", some(), nil, plate(), wrong, api.ErrArg},
		{"the margin", some(), nil, plate(), api.Settings{Margin: maxGap + 1}, api.ErrArg},
	} {
		if at, found, e := nest.Fit(x.s, x.taken, x.x, x.set); e != x.want || found || at != (api.Placement{}) {
			t.Error(x.name, at, found, e)
		}
	}
	for _, r := range invalid() {
		if at, found, e := nest.Fit(some(), [][]api.Rect{{r}}, noPiece, wrong); e != api.ErrArg || found || at != (api.Placement{}) {
			t.Error(r, at, found, e)
		}
	}
	for _, f := range sheetFaults() {
		s := some()
		f.make(&s)
		if at, found, e := nest.Fit(s, many, noPiece, wrong); e != f.want || found || at != (api.Placement{}) {
			t.Error(f.name, at, found, e)
		}
	}
	for _, f := range pieceFaults() {
		x := plate()
		f.make(&x)
		if at, found, e := nest.Fit(some(), make([][]api.Rect, 8), x, wrong); e != f.want || found || at != (api.Placement{}) {
			t.Error(f.name, at, found, e)
		}
	}
	full := slices.Repeat([][]api.Rect{slices.Repeat([]api.Rect{rect(95, 0, 1, 1)}, 12)}, 8)
	if at, found, e := nest.Fit(some(), full, piece(rect(0, 0, 30, 20)), api.Settings{Gap: 2}); e != api.OK || !found || at != (api.Placement{X: 10}) {
		t.Error(at, found, e)
	}
}
