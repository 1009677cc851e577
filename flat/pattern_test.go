package flat_test

import (
	"math"
	"math/rand"
	"slices"
	"testing"

	"sheetmetal/api"
	"sheetmetal/flat"
	"sheetmetal/geom"
)

const top = api.MaxTicks

// sample returns a pattern in which all lists are different.
func sample() api.Flat {
	return api.Flat{
		Rects: []api.Rect{rect(10, 20, 30, 40), rect(40, 25, 5, 10)},
		Cuts:  []api.Rect{rect(12, 22, 3, 4), rect(38, 0, 4, 100)},
		Forms: []api.Rect{rect(20, 30, 1, 2)},
		Bends: []api.BendLine{
			{Flange: 3, Parent: -7, Line: line(40, 25, 40, 35), Angle: 77, Deduct: -5},
			{Flange: 0, Parent: 1, Line: line(1, 9, 6, 2), Angle: 90, Deduct: 9},
		},
	}
}

// wildPatterns returns patterns that the functions refuse.
func wildPatterns() []api.Flat {
	var l []api.Flat
	add := func(change func(f *api.Flat)) {
		f := sample()
		change(&f)
		l = append(l, f)
	}
	add(func(f *api.Flat) { f.Rects = nil })
	add(func(f *api.Flat) { f.Rects = []api.Rect{} })
	many := slices.Repeat([]api.Rect{rect(0, 0, 1, 1)}, api.MaxRects+1)
	add(func(f *api.Flat) { f.Rects = many })
	add(func(f *api.Flat) { f.Cuts = many })
	add(func(f *api.Flat) { f.Forms = many })
	for _, r := range []api.Rect{
		{}, rect(0, 0, 0, 1), rect(0, 0, 1, 0), rect(0, 0, -1, 1), rect(0, 0, 1, -1), rect(top, 0, 1, 1), rect(0, top, 1, 1),
		rect(-top-1, 0, 5, 5), rect(0, -top-1, 5, 5), rect(0, 0, top+1, 1), rect(0, 0, 1, top+1), rect(1, 0, math.MaxInt, 1),
		rect(math.MinInt, 0, 1, 1), rect(0, math.MaxInt, 1, 1), rect(math.MinInt, math.MinInt, math.MinInt, math.MinInt),
	} {
		add(func(f *api.Flat) { f.Rects[1] = r })
		add(func(f *api.Flat) { f.Cuts[1] = r })
		add(func(f *api.Flat) { f.Forms[0] = r })
	}
	for _, n := range []int{top + 1, -top - 1, 1 << 32, 1<<32 + 1, math.MaxInt, math.MinInt} {
		add(func(f *api.Flat) { f.Bends[1].Line.X1 = n })
		add(func(f *api.Flat) { f.Bends[1].Line.Y1 = n })
		add(func(f *api.Flat) { f.Bends[1].Line.X2 = n })
		add(func(f *api.Flat) { f.Bends[0].Line.Y2 = n })
	}
	return l
}

func TestPatternErrors(t *testing.T) {
	for _, x := range wildPatterns() {
		if b, e := flat.Bounds(x); b != (api.Rect{}) || e != api.ErrArg {
			t.Error(x, b, e)
		}
		if f, e := flat.Settle(x); !sameFlat(f, api.Flat{}) || e != api.ErrArg {
			t.Error(x, f, e)
		}
		if n, e := flat.Surface(x); n != 0 || e != api.ErrArg {
			t.Error(x, n, e)
		}
		for _, turns := range []int{-1, 0, 1, 2, 3, 4} {
			if f, e := flat.Quarter(x, turns); !sameFlat(f, api.Flat{}) || e != api.ErrArg {
				t.Error(x, turns, f, e)
			}
		}
	}
	far := sample()
	far.Bends[0].Line.X1 = -top
	for _, turns := range []int{-1, 4, 5, 8, -4, 1 << 32, 1<<32 + 1, math.MaxInt, math.MinInt} {
		for _, x := range []api.Flat{sample(), far} {
			if f, e := flat.Quarter(x, turns); !sameFlat(f, api.Flat{}) || e != api.ErrArg {
				t.Error(turns, f, e)
			}
		}
	}
}

func TestBounds(t *testing.T) {
	for _, x := range []struct {
		l    []api.Rect
		want api.Rect
	}{
		{[]api.Rect{rect(1, 2, 3, 4)}, rect(1, 2, 3, 4)},
		{[]api.Rect{rect(-5, -6, 1, 2)}, rect(-5, -6, 1, 2)},
		{[]api.Rect{rect(0, 0, 9, 1), rect(2, -3, 1, 20)}, rect(0, -3, 9, 20)},
		{[]api.Rect{rect(2, -3, 1, 20), rect(0, 0, 9, 1)}, rect(0, -3, 9, 20)},
		{[]api.Rect{rect(-top, -top, 2*top, 2*top)}, rect(-top, -top, 2*top, 2*top)},
		{[]api.Rect{rect(top-1, top-1, 1, 1), rect(-top, -top, 1, 1)}, rect(-top, -top, 2*top, 2*top)},
		{slices.Repeat([]api.Rect{rect(7, 7, 7, 7)}, api.MaxRects), rect(7, 7, 7, 7)},
	} {
		// Holes and bend lines do not matter, wherever they are.
		f := api.Flat{
			Rects: x.l,
			Cuts:  slices.Repeat([]api.Rect{rect(-top, -top, 2*top, 2*top)}, api.MaxRects),
			Forms: slices.Repeat([]api.Rect{rect(-top, -top, 2*top, 2*top)}, api.MaxRects),
			Bends: slices.Repeat([]api.BendLine{{Line: line(-top, -top, top, top)}}, 100),
		}
		if b, e := flat.Bounds(f); b != x.want || e != api.OK {
			t.Error(x, b, e)
		}
	}
}

func TestSettle(t *testing.T) {
	f, e := flat.Settle(sample())
	want := api.Flat{
		Rects: []api.Rect{rect(0, 0, 30, 40), rect(30, 5, 5, 10)},
		Cuts:  []api.Rect{rect(2, 2, 3, 4), rect(28, -20, 4, 100)},
		Forms: []api.Rect{rect(10, 10, 1, 2)},
		Bends: []api.BendLine{
			{Flange: 3, Parent: -7, Line: line(30, 5, 30, 15), Angle: 77, Deduct: -5},
			{Flange: 0, Parent: 1, Line: line(-9, -11, -4, -18), Angle: 90, Deduct: 9},
		},
	}
	if e != api.OK || !sameFlat(f, want) {
		t.Errorf("%+v, %v", f, e)
	}
}

func TestQuarter(t *testing.T) {
	bends := func(ordered, other api.Segment) []api.BendLine {
		return []api.BendLine{{Flange: 3, Parent: -7, Line: ordered, Angle: 77, Deduct: -5}, {Flange: 0, Parent: 1, Line: other, Angle: 90, Deduct: 9}}
	}
	settled, _ := flat.Settle(sample())
	for turns, want := range []api.Flat{
		settled,
		{
			Rects: []api.Rect{rect(0, 0, 40, 30), rect(25, 30, 10, 5)},
			Cuts:  []api.Rect{rect(34, 2, 4, 3), rect(-40, 28, 100, 4)},
			Forms: []api.Rect{rect(28, 10, 2, 1)},
			Bends: bends(line(25, 30, 35, 30), line(51, -9, 58, -4)),
		},
		{
			Rects: []api.Rect{rect(5, 0, 30, 40), rect(0, 25, 5, 10)},
			Cuts:  []api.Rect{rect(30, 34, 3, 4), rect(3, -40, 4, 100)},
			Forms: []api.Rect{rect(24, 28, 1, 2)},
			Bends: bends(line(5, 25, 5, 35), line(44, 51, 39, 58)),
		},
		{
			Rects: []api.Rect{rect(0, 5, 40, 30), rect(5, 0, 10, 5)},
			Cuts:  []api.Rect{rect(2, 30, 4, 3), rect(-20, 3, 100, 4)},
			Forms: []api.Rect{rect(10, 24, 2, 1)},
			Bends: bends(line(5, 5, 15, 5), line(-11, 44, -18, 39)),
		},
	} {
		if f, e := flat.Quarter(sample(), turns); e != api.OK || !sameFlat(f, want) {
			t.Errorf("%d: %+v, %v", turns, f, e)
		}
	}
}

// It is asked of the line that is given, and only once, whether its ends are in order.
func TestQuarterOfLines(t *testing.T) {
	for _, x := range []struct {
		given, want api.Segment
		turns       int
	}{
		{line(0, 0, 0, 5), line(5, 0, 10, 0), 1},
		{line(0, 5, 0, 0), line(5, 0, 10, 0), 1},
		{line(0, 0, 5, 0), line(10, 0, 10, 5), 1},
		{line(5, 0, 0, 0), line(10, 5, 10, 0), 1},
		{line(0, 0, 5, 3), line(7, 0, 10, 5), 1},
		{line(5, 3, 0, 0), line(7, 5, 10, 0), 1},
		{line(0, 3, 5, 0), line(7, 0, 10, 5), 1},
		{line(5, 0, 0, 3), line(10, 5, 7, 0), 1},
		{line(0, 0, 0, 5), line(10, 5, 10, 10), 2},
		{line(0, 5, 0, 0), line(10, 5, 10, 10), 2},
		{line(0, 0, 5, 3), line(5, 7, 10, 10), 2},
		{line(5, 3, 0, 0), line(5, 7, 10, 10), 2},
		{line(0, 3, 5, 0), line(10, 7, 5, 10), 2},
		{line(5, 0, 0, 3), line(5, 10, 10, 7), 2},
		{line(0, 0, 0, 5), line(0, 10, 5, 10), 3},
		{line(0, 5, 0, 0), line(5, 10, 0, 10), 3},
		{line(0, 0, 5, 3), line(0, 5, 3, 10), 3},
		{line(5, 3, 0, 0), line(3, 5, 0, 10), 3},
		{line(0, 3, 5, 0), line(3, 10, 0, 5), 3},
		{line(5, 0, 0, 3), line(0, 5, 3, 10), 3},
		{line(4, 4, 4, 4), line(4, 6, 4, 6), 3},
		{line(0, 3, 5, 0), line(0, 3, 5, 0), 0},
		{line(0, 0, 5, 3), line(0, 0, 5, 3), 0},
	} {
		f := api.Flat{Rects: []api.Rect{rect(0, 0, 10, 10)}, Bends: []api.BendLine{{Line: x.given}}}
		g, e := flat.Quarter(f, x.turns)
		if e != api.OK || g.Bends[0].Line != x.want {
			t.Error(x, g, e)
		}
	}
}

func TestTooLargePatterns(t *testing.T) {
	one := []api.Rect{rect(0, 0, 1, 1)}
	moved := []api.Rect{rect(-1, 0, 2, 1)}
	for i, x := range []struct {
		f    api.Flat
		want [4]api.Errno // for each number of quarter turns
	}{
		// The widest pattern that can be settled, and one that is wider.
		{api.Flat{Rects: []api.Rect{rect(-5, 0, top, top)}}, [4]api.Errno{}},
		{api.Flat{Rects: []api.Rect{rect(-5, -9, top+1, 9)}}, [4]api.Errno{api.ErrLarge, api.ErrLarge, api.ErrLarge, api.ErrLarge}},
		{api.Flat{Rects: []api.Rect{rect(-5, -9, 5, top+1)}}, [4]api.Errno{api.ErrLarge, api.ErrLarge, api.ErrLarge, api.ErrLarge}},
		{api.Flat{Rects: []api.Rect{rect(-1, 0, 1, 1), rect(top-1, 0, 1, 1)}}, [4]api.Errno{api.ErrLarge, api.ErrLarge, api.ErrLarge, api.ErrLarge}},
		{api.Flat{Rects: []api.Rect{rect(-top, -top, 1, 1)}}, [4]api.Errno{}},
		{api.Flat{Rects: []api.Rect{rect(top-1, top-1, 1, 1)}}, [4]api.Errno{}},
		// A hole or an end of a line that is moved out of the limits; some turns bring it to the other side of 0.
		{api.Flat{Rects: moved, Cuts: []api.Rect{rect(top-1, 0, 1, 1)}}, [4]api.Errno{api.ErrLarge, api.ErrLarge, api.OK, api.OK}},
		{api.Flat{Rects: moved, Forms: []api.Rect{rect(top-1, 0, 1, 1)}}, [4]api.Errno{api.ErrLarge, api.ErrLarge, api.OK, api.OK}},
		{api.Flat{Rects: moved, Bends: []api.BendLine{{Line: line(0, 0, top, 0)}}}, [4]api.Errno{api.ErrLarge, api.ErrLarge, api.OK, api.OK}},
		{api.Flat{Rects: moved, Bends: []api.BendLine{{Line: line(top, 0, 0, 0)}}}, [4]api.Errno{api.ErrLarge, api.ErrLarge, api.OK, api.OK}},
		{api.Flat{Rects: one, Cuts: []api.Rect{rect(top-1, 0, 1, 1)}}, [4]api.Errno{}},
		{api.Flat{Rects: one, Cuts: []api.Rect{rect(-top, 0, 1, 1)}}, [4]api.Errno{api.OK, api.OK, api.ErrLarge, api.ErrLarge}},
		{api.Flat{Rects: one, Forms: []api.Rect{rect(0, -top, 1, 1)}}, [4]api.Errno{api.OK, api.ErrLarge, api.ErrLarge, api.OK}},
		{api.Flat{Rects: one, Bends: []api.BendLine{{Line: line(0, -top, 0, 0)}}}, [4]api.Errno{api.OK, api.ErrLarge, api.ErrLarge, api.OK}},
		{api.Flat{Rects: one, Bends: []api.BendLine{{Line: line(-top, 0, 0, 0)}}}, [4]api.Errno{api.OK, api.OK, api.ErrLarge, api.ErrLarge}},
		{api.Flat{Rects: one, Bends: []api.BendLine{{Line: line(0, 0, 0, top)}}}, [4]api.Errno{}},
	} {
		for turns, want := range x.want {
			if f, e := flat.Quarter(x.f, turns); e != want || e != api.OK && !sameFlat(f, api.Flat{}) {
				t.Errorf("%d, %d turns: %v, %v, want %v", i, turns, f, e, want)
			}
		}
		if f, e := flat.Settle(x.f); e != x.want[0] || e != api.OK && !sameFlat(f, api.Flat{}) {
			t.Errorf("%d: %v, %v, want %v", i, f, e, x.want[0])
		}
	}
}

func TestSurface(t *testing.T) {
	for _, x := range []struct {
		rects, cuts []api.Rect
		want        int
	}{
		{[]api.Rect{rect(0, 0, 10, 10)}, nil, 100},
		{[]api.Rect{rect(0, 0, 10, 10), rect(5, 5, 10, 10)}, nil, 175},
		{[]api.Rect{rect(0, 0, 10, 10), rect(0, 0, 10, 10)}, nil, 100},
		{[]api.Rect{rect(0, 0, 10, 10), rect(20, 0, 1, 1)}, nil, 101},
		{[]api.Rect{rect(0, 0, 10, 10)}, []api.Rect{rect(1, 1, 2, 3)}, 94},
		{[]api.Rect{rect(0, 0, 10, 10)}, []api.Rect{rect(1, 1, 2, 3), rect(2, 2, 2, 3)}, 90},
		{[]api.Rect{rect(0, 0, 10, 10)}, []api.Rect{rect(-5, -5, 10, 10)}, 75},
		{[]api.Rect{rect(0, 0, 10, 10)}, []api.Rect{rect(10, 0, 10, 10)}, 100},
		{[]api.Rect{rect(0, 0, 10, 10)}, []api.Rect{rect(0, 0, 10, 10)}, 0},
		{[]api.Rect{rect(0, 0, 10, 10)}, []api.Rect{rect(-top, -top, 2*top, 2*top)}, 0},
		{[]api.Rect{rect(-top, -top, 2*top, 2*top)}, []api.Rect{rect(0, 0, 1, 1)}, 4*top*top - 1},
		{[]api.Rect{rect(0, 0, 10, 10), rect(10, 0, 10, 10)}, []api.Rect{rect(5, 2, 10, 6)}, 140},
		{[]api.Rect{rect(0, 0, 10, 4), rect(0, 6, 10, 4)}, []api.Rect{rect(2, 2, 3, 6)}, 68},
	} {
		f := api.Flat{Rects: x.rects, Cuts: x.cuts, Forms: []api.Rect{rect(0, 0, 5, 5)}, Bends: []api.BendLine{{Line: line(0, 0, 5, 5)}}}
		if n, e := flat.Surface(f); n != x.want || e != api.OK {
			t.Error(x, n, e)
		}
	}
}

// The most rectangles, no two of which have a line in common.
func TestSurfaceOfManyRectangles(t *testing.T) {
	var f api.Flat
	for i := range api.MaxRects {
		f.Rects = append(f.Rects, rect(-2*i, -4*i-1, 4*i+1, 8*i+3))
		f.Cuts = append(f.Cuts, rect(i-200, -2*i-1, 400-2*i, 4*i+2))
	}
	f.Forms = slices.Repeat([]api.Rect{rect(0, 0, 1, 1)}, api.MaxRects)
	if n, e := flat.Surface(f); n != surface(f) || e != api.OK {
		t.Error(n, e, surface(f))
	}
}

// surface returns the number of squares of size 1 that lie in Rects and not in Cuts.
func surface(f api.Flat) int {
	squares := map[[2]int]bool{}
	fill := func(l []api.Rect, to bool) {
		for _, r := range l {
			for x := r.X; x < r.X+r.W; x++ {
				for y := r.Y; y < r.Y+r.H; y++ {
					squares[[2]int{x, y}] = to
				}
			}
		}
	}
	fill(f.Rects, true)
	fill(f.Cuts, false)
	n := 0
	for _, in := range squares {
		if in {
			n++
		}
	}
	return n
}

// randomFlat returns a small pattern.
func randomFlat(r *rand.Rand) api.Flat {
	list := func(n int) []api.Rect {
		var l []api.Rect
		for range n {
			l = append(l, rect(r.Intn(30)-15, r.Intn(30)-15, 1+r.Intn(12), 1+r.Intn(12)))
		}
		return l
	}
	f := api.Flat{Rects: list(1 + r.Intn(6)), Cuts: list(r.Intn(6)), Forms: list(r.Intn(4))}
	for i := range r.Intn(5) {
		f.Bends = append(f.Bends, api.BendLine{Flange: i, Line: line(r.Intn(9)-4, r.Intn(9)-4, r.Intn(9)-4, r.Intn(9)-4), Deduct: r.Intn(5)})
	}
	return f
}

// turned returns what becomes of a rectangle by quarter turns about 0, 0.
func turned(r api.Rect, turns int) api.Rect {
	switch turns {
	case 1:
		return rect(-r.Y-r.H, r.X, r.H, r.W)
	case 2:
		return rect(-r.X-r.W, -r.Y-r.H, r.W, r.H)
	case 3:
		return rect(r.Y, -r.X-r.W, r.H, r.W)
	}
	return r
}

func TestRandomPatterns(t *testing.T) {
	r := rand.New(rand.NewSource(6))
	for range 3000 {
		f := randomFlat(r)
		want := surface(f)
		if n, e := flat.Surface(f); n != want || e != api.OK {
			t.Fatal(f, n, e, want)
		}
		for turns := range 4 {
			checkTurned(t, f, turns)
			g, _ := flat.Quarter(f, turns)
			if n, e := flat.Surface(g); n != want || e != api.OK {
				t.Fatal(f, turns, n, e, want)
			}
		}
		// Lines that are not in order may come into it by a turn, and are then kept in it.
		f.Bends = nil
		settled, _ := flat.Settle(f)
		g := f
		for range 4 {
			g, _ = flat.Quarter(g, 1)
		}
		if !sameFlat(g, settled) {
			t.Fatal(f, g)
		}
	}
}

// checkTurned checks the rectangles of a pattern after quarter turns: moved by one vector, with the bounds at 0, 0.
func checkTurned(t *testing.T, f api.Flat, turns int) {
	t.Helper()
	g, e := flat.Quarter(f, turns)
	if e != api.OK || len(g.Rects) != len(f.Rects) || len(g.Cuts) != len(f.Cuts) || len(g.Forms) != len(f.Forms) {
		t.Fatal(f, g, e)
	}
	if b, e := flat.Bounds(g); b.X != 0 || b.Y != 0 || e != api.OK {
		t.Fatal(f, g, b, e)
	}
	first := turned(f.Rects[0], turns)
	x, y := g.Rects[0].X-first.X, g.Rects[0].Y-first.Y
	before, after := slices.Concat(f.Rects, f.Cuts, f.Forms), slices.Concat(g.Rects, g.Cuts, g.Forms)
	for i, r := range before {
		r = turned(r, turns)
		if after[i] != rect(r.X+x, r.Y+y, r.W, r.H) {
			t.Fatal(f, turns, g)
		}
	}
}

func TestSurfaceWithoutCutsIsTheArea(t *testing.T) {
	r := rand.New(rand.NewSource(7))
	for range 300 {
		var f api.Flat
		for range 1 + r.Intn(api.MaxRects) {
			x, y := r.Intn(2*top)-top, r.Intn(2*top)-top
			f.Rects = append(f.Rects, rect(x, y, 1+r.Intn(top-x), 1+r.Intn(top-y)))
		}
		want, _ := geom.Area(f.Rects)
		if n, e := flat.Surface(f); n != want || e != api.OK {
			t.Fatal(f, n, e, want)
		}
	}
}

// The functions leave their argument as it is, and their results share no memory with it.
func TestPatternsLeaveTheirArgument(t *testing.T) {
	for turns := range 4 {
		f := sample()
		g, _ := flat.Quarter(f, turns)
		h, _ := flat.Settle(f)
		flat.Surface(f)
		flat.Bounds(f)
		if !sameFlat(f, sample()) {
			t.Fatal(f)
		}
		for _, x := range []api.Flat{g, h} {
			clear(x.Rects)
			clear(x.Cuts)
			clear(x.Forms)
			clear(x.Bends)
		}
		if !sameFlat(f, sample()) {
			t.Fatal(f)
		}
	}
}
