package geom_test

import (
	"testing"

	"sheetmetal/api"
	"sheetmetal/geom"
)

// at returns the point of a spot.
func at(x, y int) api.Point { return api.Point{X: root(2*x, 0), Y: root(2*y, 0)} }

// turned returns the points of spots at the station k.
func turned(t *testing.T, l []api.Spot, k int) []api.Point {
	t.Helper()
	var points []api.Point
	for _, s := range l {
		p, e := geom.Turn(s, k)
		if e != api.OK {
			t.Fatal(s, k, e)
		}
		points = append(points, p)
	}
	return points
}

func TestTurn(t *testing.T) {
	// The spots 1, 0 and 0, 1 show the cosines and sines; the spot 3, 5 their sums.
	wantX := []api.Root{root(6, 0), root(-5, 3), root(3, -5), root(-10, 0), root(-3, -5), root(-5, -3), root(-6, 0), root(5, -3), root(-3, 5), root(10, 0), root(3, 5), root(5, 3)}
	wantY := []api.Root{root(10, 0), root(3, 5), root(5, 3), root(6, 0), root(-5, 3), root(3, -5), root(-10, 0), root(-3, -5), root(-5, -3), root(-6, 0), root(5, -3), root(-3, 5)}
	cosine := []api.Root{root(2, 0), root(0, 1), root(1, 0), root(0, 0), root(-1, 0), root(0, -1), root(-2, 0), root(0, -1), root(-1, 0), root(0, 0), root(1, 0), root(0, 1)}
	sine := []api.Root{root(0, 0), root(1, 0), root(0, 1), root(2, 0), root(0, 1), root(1, 0), root(0, 0), root(-1, 0), root(0, -1), root(-2, 0), root(0, -1), root(-1, 0)}
	negative := func(r api.Root) api.Root { return root(-r.A, -r.B) }
	for k := range 12 {
		for _, x := range []struct {
			spot api.Spot
			want api.Point
		}{
			{api.Spot{X: 1}, api.Point{X: cosine[k], Y: sine[k]}},
			{api.Spot{Y: 1}, api.Point{X: negative(sine[k]), Y: cosine[k]}},
			{api.Spot{X: 3, Y: 5}, api.Point{X: wantX[k], Y: wantY[k]}},
			{api.Spot{}, api.Point{}},
		} {
			if p, e := geom.Turn(x.spot, k); p != x.want || e != api.OK {
				t.Error(x.spot, k, p, e)
			}
		}
	}
	if p, e := geom.Turn(api.Spot{X: 2}, 1); p != (api.Point{X: root(0, 2), Y: root(2, 0)}) || e != api.OK {
		t.Error(p, e)
	}
}

func TestTurnLimits(t *testing.T) {
	for _, n := range []int{api.MaxCoord, -api.MaxCoord} {
		if p, e := geom.Turn(api.Spot{X: n, Y: n}, 0); p != at(n, n) || e != api.OK {
			t.Error(n, p, e)
		}
	}
	for _, n := range append([]int{api.MaxCoord + 1, -api.MaxCoord - 1}, wild...) {
		for _, s := range []api.Spot{{X: n}, {Y: n}} {
			if p, e := geom.Turn(s, 0); p != (api.Point{}) || e != api.ErrArg {
				t.Error(s, p, e)
			}
		}
	}
	for _, k := range append([]int{-1, 12, 13, -12}, wild...) {
		if p, e := geom.Turn(api.Spot{X: 1, Y: 1}, k); p != (api.Point{}) || e != api.ErrArg {
			t.Error(k, p, e)
		}
	}
}

func TestOrient(t *testing.T) {
	for _, x := range []struct {
		a, b, c api.Point
		want    int
	}{
		{at(0, 0), at(1, 0), at(0, 1), 1},
		{at(0, 0), at(0, 1), at(1, 0), -1},
		{at(0, 0), at(1, 1), at(2, 2), 0},
		{at(2, 2), at(0, 0), at(1, 1), 0},
		{at(5, 7), at(5, 7), at(1, 2), 0},
		{at(1, 2), at(5, 7), at(5, 7), 0},
		{at(5, 7), at(1, 2), at(5, 7), 0},
		{at(5, 7), at(5, 7), at(5, 7), 0},
		{at(0, 0), api.Point{X: root(0, 1), Y: root(3, 0)}, api.Point{X: root(1, 0), Y: root(0, 1)}, 0},
		// 26/15 and 97/56 are just below and above the square root of 3.
		{at(0, 0), api.Point{X: root(1, 0), Y: root(0, 1)}, at(15, 26), 1},
		{at(0, 0), api.Point{X: root(1, 0), Y: root(0, 1)}, at(56, 97), 1},
		{at(0, 0), api.Point{X: root(1, 0), Y: root(0, 1)}, at(11, 19), -1},
		{at(0, 0), api.Point{X: root(1, 0), Y: root(0, 1)}, at(41, 71), -1},
	} {
		if s, e := geom.Orient(x.a, x.b, x.c); s != x.want || e != api.OK {
			t.Error(x.a, x.b, x.c, s, e)
		}
	}
}

// numbers returns the point with all four numbers.
func numbers(a, b, c, d int) api.Point { return api.Point{X: root(a, b), Y: root(c, d)} }

func TestOrientLimits(t *testing.T) {
	const m = api.MaxFactor
	low, right, high := numbers(-m, -m, -m, -m), numbers(m, m, -m, -m), numbers(m, m, m, m)
	for _, x := range []struct {
		a, b, c api.Point
		want    int
	}{{low, right, high, 1}, {low, high, right, -1}, {low, high, numbers(0, 0, 0, 0), 0}, {low, high, numbers(0, 0, 1, 0), 1}, {low, high, numbers(m, m, m, m-1), -1}} {
		if s, e := geom.Orient(x.a, x.b, x.c); s != x.want || e != api.OK {
			t.Error(x.a, x.b, x.c, s, e)
		}
	}
	for _, n := range append([]int{m + 1, -m - 1}, wild...) {
		for _, p := range []api.Point{numbers(n, 0, 0, 0), numbers(0, n, 0, 0), numbers(0, 0, n, 0), numbers(0, 0, 0, n)} {
			for _, l := range [][3]api.Point{{p, low, high}, {low, p, high}, {low, high, p}} {
				if s, e := geom.Orient(l[0], l[1], l[2]); s != 0 || e != api.ErrLarge {
					t.Error(l, s, e)
				}
			}
		}
	}
}
