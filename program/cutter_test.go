package program_test

import (
	"math/rand"
	"slices"
	"testing"

	"sheetmetal/api"
	"sheetmetal/program"
)

func sameCutting(a, b program.Cutting) bool {
	return slices.Equal(a.Lines, b.Lines) && slices.Equal(a.Stamps, b.Stamps)
}

func TestRunCut(t *testing.T) {
	s := sheet(100, 80)
	for _, x := range []struct {
		name string
		ops  []api.Op
		want program.Cutting
	}{
		{"nothing", nil, program.Cutting{}},
		{"moves", []api.Op{move(100, 80), move(0, 0), move(50, 3)}, program.Cutting{}},
		{"from the beginning", []api.Op{line(10, 0)}, program.Cutting{Lines: []api.Segment{segment(0, 0, 10, 0)}}},
		{"upwards", []api.Op{line(0, 80)}, program.Cutting{Lines: []api.Segment{segment(0, 0, 0, 80)}}},
		{"back", []api.Op{move(30, 20), line(10, 20), line(10, 5)}, program.Cutting{Lines: []api.Segment{segment(10, 20, 30, 20), segment(10, 5, 10, 20)}}},
		{"a break", []api.Op{move(30, 20), breaks(30, 10), breaks(40, 10)}, program.Cutting{Lines: []api.Segment{segment(30, 10, 40, 10), segment(30, 10, 30, 20)}}},
		{"a line and a break", []api.Op{move(30, 20), line(40, 20), breaks(50, 20)}, program.Cutting{Lines: []api.Segment{segment(30, 20, 50, 20)}}},
		{"a gap", []api.Op{move(30, 20), line(40, 20), move(41, 20), line(50, 20)}, program.Cutting{Lines: []api.Segment{segment(30, 20, 40, 20), segment(41, 20, 50, 20)}}},
		{"twice", []api.Op{line(40, 0), line(0, 0)}, program.Cutting{Lines: []api.Segment{segment(0, 0, 40, 0)}}},
		{"within", []api.Op{line(40, 0), move(30, 0), line(20, 0), line(30, 0)}, program.Cutting{Lines: []api.Segment{segment(0, 0, 40, 0)}}},
		{"a hole between", []api.Op{move(10, 9), line(20, 9), move(30, 9), line(40, 9), move(35, 9), line(15, 9)}, program.Cutting{Lines: []api.Segment{segment(10, 9, 40, 9)}}},
		{"vertical ones that overlap", []api.Op{move(7, 30), line(7, 10), move(7, 60), line(7, 20), move(7, 70), line(7, 61)}, program.Cutting{Lines: []api.Segment{segment(7, 10, 7, 60), segment(7, 61, 7, 70)}}},
		{"a cross", []api.Op{move(10, 5), line(10, 15), move(5, 10), line(15, 10)}, program.Cutting{Lines: []api.Segment{segment(5, 10, 15, 10), segment(10, 5, 10, 15)}}},
		{"next to one another", []api.Op{move(10, 5), line(10, 15), move(11, 5), line(11, 15)}, program.Cutting{Lines: []api.Segment{segment(10, 5, 10, 15), segment(11, 5, 11, 15)}}},
		{"stamps", []api.Op{stamp(rect(9, 9, 3, 4)), stamp(rect(0, 0, 100, 80)), stamp(rect(9, 9, 3, 4))}, program.Cutting{Stamps: []api.Rect{rect(9, 9, 3, 4), rect(0, 0, 100, 80), rect(9, 9, 3, 4)}}},
		{"a stamp does not move", []api.Op{move(20, 20), stamp(rect(9, 9, 3, 4)), line(20, 30)}, program.Cutting{Lines: []api.Segment{segment(20, 20, 20, 30)}, Stamps: []api.Rect{rect(9, 9, 3, 4)}}},
		{"other fields are not looked at", []api.Op{{Kind: api.OpMove, X: 5, W: 7, H: -1, N: wild[0]}, {Kind: api.OpLine, X: 9, W: 1, N: 4}, {Kind: api.OpStamp, W: 1, H: 1, N: wild[9]}},
			program.Cutting{Lines: []api.Segment{segment(5, 0, 9, 0)}, Stamps: []api.Rect{rect(0, 0, 1, 1)}}},
	} {
		if got, e := program.RunCut(s, x.ops); e != api.OK || !sameCutting(got, x.want) {
			t.Error(x.name, got, e)
		}
	}
}

func TestOrderOfLines(t *testing.T) {
	ops := []api.Op{move(50, 70), line(50, 60), move(50, 10), line(50, 20), move(4, 70), line(4, 60), move(90, 5), line(80, 5), move(10, 5), line(20, 5), move(70, 4), line(60, 4)}
	want := []api.Segment{segment(60, 4, 70, 4), segment(10, 5, 20, 5), segment(80, 5, 90, 5), segment(4, 60, 4, 70), segment(50, 10, 50, 20), segment(50, 60, 50, 70)}
	if got, e := program.RunCut(sheet(100, 80), ops); e != api.OK || !slices.Equal(got.Lines, want) {
		t.Error(got, e)
	}
}

func TestErrorsOfRunCut(t *testing.T) {
	s := sheet(100, 80)
	s.Clamps = []api.Rect{rect(40, 30, 10, 5), rect(50, 30, 10, 5), rect(70, 0, 1, 1)}
	for _, x := range []struct {
		name string
		ops  []api.Op
	}{
		{"no kind", []api.Op{{}}},
		{"no kind of cutting: mount", []api.Op{mount(0, 0)}},
		{"no kind of cutting: bend", []api.Op{bend(0, 0, 0, 0)}},
		{"another kind", []api.Op{{Kind: 7}}},
		{"a negative kind", []api.Op{{Kind: -1}}},
		{"left of the sheet", []api.Op{move(-1, 0)}},
		{"below the sheet", []api.Op{move(0, -1)}},
		{"right of the sheet", []api.Op{move(101, 0)}},
		{"above the sheet", []api.Op{move(0, 81)}},
		{"a line out of the sheet", []api.Op{line(101, 0)}},
		{"a break out of the sheet", []api.Op{breaks(0, 81)}},
		{"no length", []api.Op{line(0, 0)}},
		{"a break of no length", []api.Op{move(9, 9), breaks(9, 9)}},
		{"oblique", []api.Op{line(1, 1)}},
		{"an oblique break", []api.Op{move(9, 9), breaks(8, 80)}},
		{"through a clamp", []api.Op{move(30, 32), line(90, 32)}},
		{"into a clamp", []api.Op{move(30, 32), line(41, 32)}},
		{"out of a clamp", []api.Op{move(45, 32), breaks(45, 20)}},
		{"in a clamp", []api.Op{move(42, 32), line(43, 32)}},
		{"from its border", []api.Op{move(40, 34), line(41, 34)}},
		{"down into a clamp", []api.Op{move(49, 40), line(49, 34)}},
		{"through the other clamp", []api.Op{move(55, 35), line(55, 30)}},
		{"an empty stamp", []api.Op{stamp(rect(1, 1, 0, 1))}},
		{"a stamp without height", []api.Op{stamp(rect(1, 1, 1, 0))}},
		{"a negative stamp", []api.Op{stamp(rect(5, 5, -1, 1))}},
		{"a stamp left of the sheet", []api.Op{stamp(rect(-1, 0, 2, 2))}},
		{"a stamp below the sheet", []api.Op{stamp(rect(0, -1, 2, 2))}},
		{"a stamp right of the sheet", []api.Op{stamp(rect(99, 0, 2, 2))}},
		{"a stamp above the sheet", []api.Op{stamp(rect(0, 79, 2, 2))}},
		{"after a good one", []api.Op{line(10, 0), stamp(rect(0, 0, 1, 1)), line(9, 1)}},
	} {
		if got, e := program.RunCut(s, x.ops); e != api.ErrProgram || !sameCutting(got, program.Cutting{}) {
			t.Error(x.name, got, e)
		}
	}
	for _, n := range wild {
		for _, o := range []api.Op{{Kind: n}, move(n, 0), move(0, n), line(n, 0), line(0, n), breaks(n, n), stamp(rect(n, 0, 1, 1)), stamp(rect(0, n, 1, 1)), stamp(rect(0, 0, n, 1)), stamp(rect(1, 1, 1, n)), stamp(rect(n, n, n, n))} {
			if got, e := program.RunCut(s, []api.Op{o}); e != api.ErrProgram || !sameCutting(got, program.Cutting{}) {
				t.Error(o, got, e)
			}
		}
	}
	// Moves cross anything, a stamp lies where it will, and a line may lie on the border of a clamp, also between two of them.
	free := []api.Op{move(45, 32), move(55, 33), move(40, 29), stamp(rect(35, 25, 20, 20)), move(30, 30), line(90, 30), move(40, 20), line(40, 40), move(50, 30), line(50, 35), move(71, 0), line(71, 1), line(70, 1)}
	if _, e := program.RunCut(s, free); e != api.OK {
		t.Error("around the clamps", e)
	}
}

// TestOrderOfErrorsOfRunCut holds that the error of the sheet is first, and then that of the length of the program.
func TestOrderOfErrorsOfRunCut(t *testing.T) {
	many := slices.Repeat([]api.Op{move(1, 1)}, api.MaxOps)
	if got, e := program.RunCut(sheet(10, 10), many); e != api.OK || !sameCutting(got, program.Cutting{}) {
		t.Error("as many as may be", e)
	}
	tooMany := slices.Concat([]api.Op{{}}, many)
	for _, x := range []struct {
		s    api.Sheet
		ops  []api.Op
		want api.Errno
	}{
		{api.Sheet{}, tooMany, api.ErrName},
		{sheet(0, 10), tooMany, api.ErrArg},
		{sheet(10, top+1), nil, api.ErrArg},
		{sheet(10, 10), tooMany, api.ErrLarge},
		{sheet(10, 10), tooMany[:api.MaxOps], api.ErrProgram},
	} {
		if got, e := program.RunCut(x.s, x.ops); e != x.want || !sameCutting(got, program.Cutting{}) {
			t.Error(x.s, len(x.ops), got, e)
		}
	}
	crowded := sheet(10, 10)
	crowded.Clamps = make([]api.Rect, api.MaxClamps+1)
	if _, e := program.RunCut(crowded, tooMany); e != api.ErrLarge {
		t.Error("clamps", e)
	}
	crowded.Clamps = []api.Rect{rect(9, 9, 2, 2)}
	if _, e := program.RunCut(crowded, nil); e != api.ErrFit {
		t.Error("a clamp beside the sheet", e)
	}
}

// crossed reports whether a line enters the clamps, in steps of a half.
func crossed(s api.Sheet, l api.Segment) bool {
	for x := 2 * l.X1; x <= 2*l.X2; x++ {
		for y := 2 * l.Y1; y <= 2*l.Y2; y++ {
			for _, c := range s.Clamps {
				if 2*c.X < x && x < 2*(c.X+c.W) && 2*c.Y < y && y < 2*(c.Y+c.H) {
					return true
				}
			}
		}
	}
	return false
}

// strokes are lines in pieces of the length 1, each as its beginning.
type strokes struct {
	across, up map[[2]int]bool
}

func (s strokes) add(l api.Segment) {
	for x := l.X1; x < l.X2; x++ {
		s.across[[2]int{x, l.Y1}] = true
	}
	for y := l.Y1; y < l.Y2; y++ {
		s.up[[2]int{l.X1, y}] = true
	}
}

func newStrokes(l ...api.Segment) strokes {
	s := strokes{map[[2]int]bool{}, map[[2]int]bool{}}
	for _, x := range l {
		s.add(x)
	}
	return s
}

// lines returns the longest lines of strokes on a sheet, in order.
func (s strokes) lines(w, h int) []api.Segment {
	var l []api.Segment
	for y := 0; y <= h; y++ {
		for x := 0; x < w; x++ {
			from := x
			for s.across[[2]int{x, y}] {
				x++
			}
			if x > from {
				l = append(l, segment(from, y, x, y))
			}
		}
	}
	for x := 0; x <= w; x++ {
		for y := 0; y < h; y++ {
			from := y
			for s.up[[2]int{x, y}] {
				y++
			}
			if y > from {
				l = append(l, segment(x, from, x, y))
			}
		}
	}
	return l
}

// simulated is RunCut for a valid sheet and positions near it.
func simulated(s api.Sheet, ops []api.Op) (program.Cutting, bool) {
	var made program.Cutting
	drawn := newStrokes()
	x, y := 0, 0
	for _, o := range ops {
		switch o.Kind {
		case api.OpMove, api.OpLine, api.OpBreak:
			if o.X < 0 || o.X > s.Width || o.Y < 0 || o.Y > s.Height {
				return program.Cutting{}, false
			}
			l := segment(min(x, o.X), min(y, o.Y), max(x, o.X), max(y, o.Y))
			if o.Kind != api.OpMove {
				if (x == o.X) == (y == o.Y) || crossed(s, l) {
					return program.Cutting{}, false
				}
				drawn.add(l)
			}
			x, y = o.X, o.Y
		case api.OpStamp:
			if o.W < 1 || o.H < 1 || o.X < 0 || o.Y < 0 || o.X+o.W > s.Width || o.Y+o.H > s.Height {
				return program.Cutting{}, false
			}
			made.Stamps = append(made.Stamps, rect(o.X, o.Y, o.W, o.H))
		default:
			return program.Cutting{}, false
		}
	}
	made.Lines = drawn.lines(s.Width, s.Height)
	return made, true
}

// randomOps returns operations on a sheet, most of which are allowed.
func randomOps(r *rand.Rand, s api.Sheet, n int) []api.Op {
	var ops []api.Op
	x, y := 0, 0
	for range n {
		kind := []int{api.OpMove, api.OpLine, api.OpLine, api.OpLine, api.OpBreak, api.OpStamp}[r.Intn(6)]
		o := api.Op{Kind: kind, X: r.Intn(s.Width + 1), Y: r.Intn(s.Height + 1)}
		switch {
		case kind == api.OpStamp:
			o.W, o.H = 1+r.Intn(3), 1+r.Intn(3)
			o.X, o.Y = max(0, o.X-3), max(0, o.Y-3)
		case kind != api.OpMove && r.Intn(2) == 0:
			o.X = x
		case kind != api.OpMove:
			o.Y = y
		}
		if r.Intn(60) == 0 {
			o.X, o.Y, o.Kind = r.Intn(s.Width+5)-2, r.Intn(s.Height+5)-2, r.Intn(8)
		}
		if kind != api.OpStamp {
			x, y = o.X, o.Y
		}
		ops = append(ops, o)
	}
	return ops
}

func TestRunCutOfRandomPrograms(t *testing.T) {
	r := rand.New(rand.NewSource(82))
	accepted, joined := 0, 0
	for range 20000 {
		s := sheet(5+r.Intn(8), 5+r.Intn(8))
		for range r.Intn(3) {
			s.Clamps = append(s.Clamps, randomRect(r, rect(0, 0, s.Width, s.Height), 3))
		}
		ops := randomOps(r, s, r.Intn(12))
		want, allowed := simulated(s, ops)
		got, e := program.RunCut(s, ops)
		if allowed != (e == api.OK) || !allowed && e != api.ErrProgram || !sameCutting(got, want) {
			t.Fatal(s, ops, got, e, want)
		}
		if allowed {
			accepted++
			cuts, joints := cutsOf(append([]api.Op{move(0, 0)}, ops...))
			if len(cuts)+len(joints) > len(got.Lines) {
				joined++
			}
		}
	}
	if accepted < 2000 || joined < 500 || accepted > 18000 {
		t.Error(accepted, joined)
	}
}
