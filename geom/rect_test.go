package geom_test

import (
	"math/rand"
	"testing"

	"sheetmetal/api"
	"sheetmetal/geom"
)

// invalid are rectangles that are not valid: an empty one, and each number beyond a limit or far away.
func invalid() []api.Rect {
	const m = api.MaxTicks
	l := []api.Rect{
		{}, {W: 1}, {H: 1}, {W: -1, H: 1}, {W: 1, H: -1}, {W: -4, H: -4},
		{X: m, W: 1, H: 1}, {Y: m, W: 1, H: 1}, {X: -m - 1, W: 1, H: 1}, {Y: -m - 1, W: 1, H: 1},
		{W: m + 1, H: 1}, {W: 1, H: m + 1}, {X: m + 1, W: 1, H: 1}, {Y: m + 1, W: 1, H: 1}, {X: -m, W: 2*m + 1, H: 1}, {Y: -m, W: 1, H: 2*m + 1},
		{X: -m - 1, W: m, H: 1}, {Y: -m - 1, W: 1, H: m},
	}
	for _, n := range wild {
		l = append(l, api.Rect{X: n, W: 1, H: 1}, api.Rect{Y: n, W: 1, H: 1}, api.Rect{X: 1, W: n, H: 1}, api.Rect{Y: 1, W: 1, H: n}, api.Rect{X: n, Y: n, W: n, H: n})
		l = append(l, api.Rect{X: n, W: -n, H: 1}, api.Rect{Y: n, W: 1, H: -n}, api.Rect{X: -n, W: n, H: 1}, api.Rect{Y: -n, W: 1, H: n})
	}
	return l
}

func TestValidRect(t *testing.T) {
	const m = api.MaxTicks
	for _, r := range []api.Rect{{W: 1, H: 1}, {X: -5, Y: 7, W: 3, H: 2}, {X: m - 1, Y: m - 1, W: 1, H: 1}, {X: -m, Y: -m, W: 2 * m, H: 2 * m}, {X: -m, Y: -m, W: 1, H: 1}, {W: m, H: m}} {
		if !geom.ValidRect(r) {
			t.Error(r)
		}
	}
	for _, r := range invalid() {
		if geom.ValidRect(r) {
			t.Error(r)
		}
	}
}

func TestOverlapInsideDistance(t *testing.T) {
	const m = api.MaxTicks
	a := api.Rect{X: 0, Y: 0, W: 4, H: 2}
	for _, x := range []struct {
		name            string
		b               api.Rect
		overlap, inside bool // whether a and b overlap, and b is inside of a
		distance        int
	}{
		{"equal", a, true, true, 0},
		{"within", api.Rect{X: 1, Y: 1, W: 1, H: 1}, true, true, 0},
		{"over a corner", api.Rect{X: 3, Y: 1, W: 9, H: 9}, true, false, 0},
		{"a cross", api.Rect{X: 1, Y: -5, W: 1, H: 20}, true, false, 0},
		{"at a side", api.Rect{X: 4, Y: 0, W: 1, H: 2}, false, false, 0},
		{"at a corner", api.Rect{X: 4, Y: 2, W: 1, H: 1}, false, false, 0},
		{"above", api.Rect{X: 1, Y: 5, W: 1, H: 1}, false, false, 3},
		{"left", api.Rect{X: -9, Y: 0, W: 1, H: 1}, false, false, 8},
		{"below and left", api.Rect{X: -3, Y: -9, W: 1, H: 1}, false, false, 8},
		{"above and right", api.Rect{X: 11, Y: 5, W: 1, H: 1}, false, false, 7},
		{"right of it, at the height of a corner", api.Rect{X: 7, Y: 2, W: 1, H: 1}, false, false, 3},
		{"around", api.Rect{X: -m, Y: -m, W: 2 * m, H: 2 * m}, true, false, 0},
		{"far away", api.Rect{X: m - 1, Y: -m, W: 1, H: 1}, false, false, m - 1},
	} {
		if geom.Overlap(a, x.b) != x.overlap || geom.Overlap(x.b, a) != x.overlap {
			t.Error("Overlap", x.name)
		}
		if geom.Inside(x.b, a) != x.inside {
			t.Error("Inside", x.name)
		}
		if d := geom.Distance(a, x.b); d != x.distance || geom.Distance(x.b, a) != d {
			t.Error("Distance", x.name, d)
		}
	}
	corners := []api.Rect{{X: -m, Y: -m, W: 1, H: 1}, {X: m - 1, Y: m - 1, W: 1, H: 1}}
	if d := geom.Distance(corners[0], corners[1]); d != 2*m-2 {
		t.Error(d)
	}
}

func TestInvalidRects(t *testing.T) {
	const m = api.MaxTicks
	for _, r := range invalid() {
		for _, valid := range []api.Rect{{W: 4, H: 4}, {X: -m, Y: -m, W: 2 * m, H: 2 * m}, {X: 5, Y: 900, W: 1, H: 1}} {
			if geom.Overlap(r, valid) || geom.Overlap(valid, r) || geom.Inside(r, valid) || geom.Inside(valid, r) {
				t.Error(r, valid)
			}
			if geom.Distance(r, valid) != 0 || geom.Distance(valid, r) != 0 {
				t.Error("Distance", r, valid)
			}
		}
		if geom.Overlap(r, r) || geom.Inside(r, r) || geom.Distance(r, r) != 0 {
			t.Error(r)
		}
	}
}

// cells are the unit squares of rectangles with small coordinates.
func cells(l ...api.Rect) map[api.Spot]bool {
	set := map[api.Spot]bool{}
	for _, r := range l {
		for x := r.X; x < r.X+r.W; x++ {
			for y := r.Y; y < r.Y+r.H; y++ {
				set[api.Spot{X: x, Y: y}] = true
			}
		}
	}
	return set
}

// randomRect returns a valid rectangle from -size to size.
func randomRect(r *rand.Rand, size int) api.Rect {
	x, y := r.Intn(2*size)-size, r.Intn(2*size)-size
	return api.Rect{X: x, Y: y, W: 1 + r.Intn(size-x), H: 1 + r.Intn(size-y)}
}

// apart returns the distance as the smallest step, in any direction, after which two sets of cells have touching ones.
func apart(a, b map[api.Spot]bool) int {
	least := -1
	for p := range a {
		for q := range b {
			d := max(0, max(p.X-q.X, q.X-p.X, p.Y-q.Y, q.Y-p.Y)-1)
			if least < 0 || d < least {
				least = d
			}
		}
	}
	return least
}

func TestRandomRects(t *testing.T) {
	r := rand.New(rand.NewSource(5))
	for range 1500 {
		a, b := randomRect(r, 3), randomRect(r, 3)
		first, second, both := cells(a), cells(b), cells(a, b)
		if overlap := len(both) < len(first)+len(second); geom.Overlap(a, b) != overlap {
			t.Error("Overlap", a, b)
		}
		if inside := len(both) == len(second); geom.Inside(a, b) != inside {
			t.Error("Inside", a, b)
		}
		if geom.Distance(a, b) != apart(first, second) {
			t.Error("Distance", a, b)
		}
	}
}
