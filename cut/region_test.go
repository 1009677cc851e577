package cut_test

import (
	"math/rand"
	"slices"
	"testing"

	"sheetmetal/api"
	"sheetmetal/cut"
	"sheetmetal/geom"
)

func TestSmall(t *testing.T) {
	for _, x := range []struct {
		name string
		l    []api.Rect
		want bool
	}{
		{"nothing", nil, true},
		{"large", []api.Rect{rect(0, 0, 99999, 88888)}, false},
		{"just large enough", []api.Rect{rect(0, 0, side, side)}, false},
		{"just large enough, elsewhere", []api.Rect{rect(-5, 7, side, side)}, false},
		{"too narrow", []api.Rect{rect(0, 0, side-1, 99999)}, true},
		{"too low", []api.Rect{rect(0, 0, 99999, side-1)}, true},
		{"too small", []api.Rect{rect(0, 0, 1, 1)}, true},
		{"large together", []api.Rect{rect(0, 0, 1, side), rect(1, 0, side-1, 1)}, false},
		{"too narrow together", []api.Rect{rect(0, 0, 1, side), rect(1, 0, side-2, 1)}, true},
		{"too low together", []api.Rect{rect(0, 0, 1, side-1), rect(1, 0, side-1, 1)}, true},
		{"apart", []api.Rect{rect(0, 0, 1, 1), rect(side-1, side-1, 1, 1)}, false},
		{"apart, the last one first", []api.Rect{rect(side-1, side-1, 1, 1), rect(0, 0, 1, 1)}, false},
		{"apart, but not enough", []api.Rect{rect(0, 0, 1, 1), rect(side-2, side-1, 1, 1)}, true},
		{"about the origin", []api.Rect{rect(-100, -100, 1, 1), rect(side-101, side-101, 1, 1)}, false},
		{"one inside of another", []api.Rect{rect(0, 0, side, side), rect(50, 50, 5, 5)}, false},
		{"as far apart as can be", []api.Rect{rect(-top, -top, 1, 1), rect(top-1, top-1, 1, 1)}, false},
		{"the largest", []api.Rect{rect(-top, -top, 2*top, 2*top)}, false},
	} {
		if got := cut.Small(piece(x.l...)); got != x.want {
			t.Error(x.name, got)
		}
		// Rectangles that are not valid are left out, and nothing else of a piece is looked at.
		for _, r := range invalid() {
			for _, l := range [][]api.Rect{append(slices.Clone(x.l), r), append([]api.Rect{r}, x.l...)} {
				if got := cut.Small(api.Piece{Gauge: -1, Rects: l, Cuts: []api.Rect{rect(0, 0, 99999, 99999), r}}); got != x.want {
					t.Error(x.name, r, got)
				}
			}
		}
	}
	if !cut.Small(api.Piece{Rects: invalid()}) || !cut.Small(api.Piece{}) {
		t.Error("not small")
	}
	if cut.Small(piece(append(slices.Repeat([]api.Rect{rect(0, 0, 1, 1)}, 100000), rect(0, 0, side, side))...)) {
		t.Error("small")
	}
}

func TestInRegion(t *testing.T) {
	one, split := []api.Rect{rect(0, 0, 4, 6)}, []api.Rect{rect(0, 0, 2, 3), rect(2, 0, 2, 3), rect(0, 3, 4, 3)}
	for s, want := range map[api.Spot]bool{
		{X: 1, Y: 1}: true, {X: 3, Y: 5}: true, {X: 2, Y: 3}: true, {X: 2, Y: 1}: true, {X: 1, Y: 3}: true,
		{}: false, {X: 4, Y: 6}: false, {X: 0, Y: 3}: false, {X: 4, Y: 3}: false, {X: 2}: false, {X: 2, Y: 6}: false, {X: -1, Y: 3}: false, {X: 2, Y: 7}: false, {X: 5, Y: 7}: false,
	} {
		for _, l := range [][]api.Rect{one, split, append(slices.Clone(split), one...), slices.Concat(invalid(), split), slices.Concat(split, invalid())} {
			if got := cut.InRegion(l, s); got != want {
				t.Error(l, s, got)
			}
		}
	}
	for _, x := range []struct {
		name string
		l    []api.Rect
		s    api.Spot
		want bool
	}{
		{"nothing", nil, api.Spot{}, false},
		{"a spot between four", []api.Rect{rect(0, 0, 1, 1), rect(1, 0, 1, 1), rect(0, 1, 1, 1), rect(1, 1, 1, 1)}, api.Spot{X: 1, Y: 1}, true},
		{"a spot between three", []api.Rect{rect(0, 0, 1, 1), rect(1, 0, 1, 1), rect(0, 1, 1, 1)}, api.Spot{X: 1, Y: 1}, false},
		{"a spot between two that touch at a corner", []api.Rect{rect(0, 0, 1, 1), rect(1, 1, 1, 1)}, api.Spot{X: 1, Y: 1}, false},
		{"a slit", []api.Rect{rect(0, 0, 2, 5), rect(3, 0, 2, 5)}, api.Spot{X: 2, Y: 2}, false},
		{"below 0", []api.Rect{rect(-5, -5, 3, 3)}, api.Spot{X: -4, Y: -3}, true},
		{"on the border below 0", []api.Rect{rect(-5, -5, 3, 3)}, api.Spot{X: -2, Y: -3}, false},
		{"in the largest", []api.Rect{rect(-top, -top, 2*top, 2*top)}, api.Spot{X: top - 1, Y: 1 - top}, true},
		{"on its border", []api.Rect{rect(-top, -top, 2*top, 2*top)}, api.Spot{X: top, Y: 0}, false},
		{"on its lower border", []api.Rect{rect(-top, -top, 2*top, 2*top)}, api.Spot{X: 0, Y: -top}, false},
		{"of very many", append(slices.Repeat([]api.Rect{rect(9, 9, 1, 1)}, 100000), rect(0, 0, 2, 2)), api.Spot{X: 1, Y: 1}, true},
	} {
		if got := cut.InRegion(x.l, x.s); got != x.want {
			t.Error(x.name, got)
		}
	}
	all := append(invalid(), rect(-top, -top, 2*top, 2*top))
	for _, n := range wild {
		for _, s := range []api.Spot{{X: n}, {Y: n}, {X: n, Y: n}} {
			if cut.InRegion(all, s) {
				t.Error(s)
			}
		}
	}
}

// TestInRegionByOutline holds that a spot is in the interior if it is in some rectangle but on no line of the outline.
func TestInRegionByOutline(t *testing.T) {
	r := rand.New(rand.NewSource(74))
	met := map[bool]int{}
	for range 2000 {
		var l []api.Rect
		for range r.Intn(6) {
			l = append(l, rect(r.Intn(8)-4, r.Intn(8)-4, 1+r.Intn(4), 1+r.Intn(4)))
		}
		lines, e := geom.Outline(l)
		if e != api.OK {
			t.Fatal(l, e)
		}
		for x := -5; x < 9; x++ {
			for y := -5; y < 9; y++ {
				want := slices.ContainsFunc(l, func(f api.Rect) bool { return f.X <= x && x <= f.X+f.W && f.Y <= y && y <= f.Y+f.H }) &&
					!slices.ContainsFunc(lines, func(s api.Segment) bool { return s.X1 <= x && x <= s.X2 && s.Y1 <= y && y <= s.Y2 })
				if got := cut.InRegion(l, api.Spot{X: x, Y: y}); got != want {
					t.Error(l, x, y, got)
				}
				met[want]++
			}
		}
	}
	if met[true] < 5000 {
		t.Error("too few", met)
	}
}
