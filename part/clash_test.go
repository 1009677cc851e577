package part_test

import (
	"math/rand"
	"testing"

	"sheetmetal/api"
	"sheetmetal/part"
)

// units are the six unit vectors.
var units = []api.Vec{{X: 1}, {X: -1}, {Y: 1}, {Y: -1}, {Z: 1}, {Z: -1}}

func TestClash(t *testing.T) {
	// The face 0 0 to 10 10 at Z 0, and one at Y 5 from the given point, X to the right and Z up.
	floor := api.Face{U: vec(1, 0, 0), V: vec(0, 1, 0), W: 10, H: 10}
	for _, x := range []struct {
		name   string
		origin api.Vec
		w, h   int
		want   bool
	}{
		{"through the middle", vec(3, 5, -2), 4, 4, true},
		{"through all of it", vec(-1, 5, -2), 12, 4, true},
		{"over the left border", vec(-3, 5, -2), 4, 4, true},
		{"over the right border", vec(9, 5, -2), 4, 4, true},
		{"left of it", vec(-4, 5, -2), 4, 4, false},
		{"right of it", vec(10, 5, -2), 4, 4, false},
		{"far away", vec(30, 5, -2), 4, 4, false},
		{"stands on it", vec(3, 5, 0), 4, 4, false},
		{"hangs under it", vec(3, 5, -4), 4, 4, false},
		{"above it", vec(3, 5, 1), 4, 4, false},
		{"below it", vec(3, 5, -9), 4, 4, false},
		{"just through it", vec(3, 5, -1), 4, 4, true},
		{"nearly all through it", vec(3, 5, -3), 4, 4, true},
		{"at the front border", vec(3, 0, -2), 4, 4, false},
		{"at the back border", vec(3, 10, -2), 4, 4, false},
		{"behind the front border", vec(3, 1, -2), 4, 4, true},
		{"before the back border", vec(3, 9, -2), 4, 4, true},
		{"in front", vec(3, -1, -2), 4, 4, false},
		{"behind", vec(3, 11, -2), 4, 4, false},
		{"thin", vec(3, 5, -2), 1, 4, true},
	} {
		wall := api.Face{Origin: x.origin, U: vec(1, 0, 0), V: vec(0, 0, 1), W: x.w, H: x.h}
		if part.Clash(floor, wall) != x.want || part.Clash(wall, floor) != x.want {
			t.Error(x.name)
		}
	}
	if part.Clash(floor, floor) {
		t.Error("a face and itself")
	}
	over := floor
	over.Origin, over.V = vec(3, 3, 0), vec(0, -1, 0)
	if part.Clash(floor, over) || part.Clash(over, floor) {
		t.Error("two faces of one plane")
	}
}

// halfPoints returns the doubled points of the interior of a small face that have integers as coordinates.
func halfPoints(f api.Face) map[api.Vec]bool {
	l := map[api.Vec]bool{}
	for i := 1; i < 2*f.W; i++ {
		for j := 1; j < 2*f.H; j++ {
			l[along(along(along(api.Vec{}, 2, f.Origin), i, f.U), j, f.V)] = true
		}
	}
	return l
}

// meetInside reports whether two faces that are not parallel have a common inner point. There is one with halves as coordinates if there is any.
func meetInside(a, b api.Face) bool {
	n, m := part.Normal(a), part.Normal(b)
	if product(n, m) != 0 {
		return false
	}
	points := halfPoints(b)
	for v := range halfPoints(a) {
		if points[v] {
			return true
		}
	}
	return false
}

// randomFace returns a small face in any direction.
func randomFace(r *rand.Rand) api.Face {
	for {
		f := api.Face{Origin: vec(r.Intn(7), r.Intn(7), r.Intn(7)), U: units[r.Intn(6)], V: units[r.Intn(6)], W: 1 + r.Intn(9), H: 1 + r.Intn(9)}
		if product(f.U, f.V) == 0 {
			return f
		}
	}
}

func TestClashOfRandomFaces(t *testing.T) {
	r := rand.New(rand.NewSource(2))
	count := map[bool]int{}
	for range 20000 {
		a, b := randomFace(r), randomFace(r)
		want := meetInside(a, b)
		if part.Clash(a, b) != want || part.Clash(b, a) != want {
			t.Error(a, b, want)
		}
		count[want]++
	}
	if count[true] < 500 || count[false] < 500 {
		t.Error("too few cases of one kind", count)
	}
}

func TestClashOfRandomParts(t *testing.T) {
	r := rand.New(rand.NewSource(3))
	for range 300 {
		p := randomPart(r)
		l, e := part.Faces(p, 1<<len(p.Flanges)-1)
		if e != api.OK {
			t.Fatal(p, e)
		}
		for i := range l {
			for j := range i {
				if meetInside(l[i], l[j]) {
					t.Error(p, j, i)
				}
			}
		}
	}
}

func TestClashOfOtherFaces(t *testing.T) {
	const m = api.MaxTicks
	floor := api.Face{Origin: vec(-m, -m, 0), U: vec(1, 0, 0), V: vec(0, 1, 0), W: m, H: m}
	wall := api.Face{Origin: vec(-5, -5, -5), U: vec(1, 0, 0), V: vec(0, 0, 1), W: 10, H: 10}
	if !part.Clash(floor, wall) || !part.Clash(wall, floor) {
		t.Fatal("the faces as they are")
	}
	far := api.Face{Origin: vec(m, m, m), U: vec(-1, 0, 0), V: vec(0, 0, -1), W: m, H: m}
	across := api.Face{Origin: vec(m-3, m-3, m-3), U: vec(0, 1, 0), V: vec(-1, 0, 0), W: m, H: m}
	if !part.Clash(far, across) || !part.Clash(across, far) {
		t.Error("at the limits")
	}
	for _, f := range []func(f *api.Face){
		func(f *api.Face) { f.U = vec(2, 0, 0) },
		func(f *api.Face) { f.U = vec(0, 0, 0) },
		func(f *api.Face) { f.U = vec(1, 1, 0) },
		func(f *api.Face) { f.V = vec(0, 0, 2) },
		func(f *api.Face) { f.V = vec(0, 0, 0) },
		func(f *api.Face) { f.V = vec(0, 1, 1) },
		func(f *api.Face) { f.V = f.U },
		func(f *api.Face) { f.V = vec(-1, 0, 0) },
		func(f *api.Face) { f.U = vec(0, 0, -1) },
		func(f *api.Face) { f.W = 0 },
		func(f *api.Face) { f.W = -10 },
		func(f *api.Face) { f.W = m + 1 },
		func(f *api.Face) { f.H = 0 },
		func(f *api.Face) { f.H = -10 },
		func(f *api.Face) { f.H = m + 1 },
	} {
		changed := wall
		f(&changed)
		if part.Clash(floor, changed) || part.Clash(changed, floor) {
			t.Error(changed)
		}
	}
}

// TestClashOfOtherDirections gives faces in all positions a U or V along which no face lies.
func TestClashOfOtherDirections(t *testing.T) {
	var walls []api.Face
	for i := range 3 {
		u, v := units[2*i], units[(2*i+2)%6]
		walls = append(walls, api.Face{Origin: along(along(api.Vec{}, -9, u), -9, v), U: u, V: v, W: 18, H: 18})
	}
	clashes := func(f api.Face) int {
		count := 0
		for _, w := range walls {
			if part.Clash(f, w) {
				count++
			}
			if part.Clash(w, f) {
				count++
			}
		}
		return count
	}
	wrong := []api.Vec{{}, {X: 2}, {Y: 2}, {Z: -2}, {X: 1, Y: 1}, {Y: -1, Z: 1}, {X: 1, Z: 1}, {X: 1, Y: 1, Z: 1}}
	for _, u := range units {
		for _, v := range units {
			f := api.Face{Origin: along(along(api.Vec{}, -3, u), -3, v), U: u, V: v, W: 6, H: 6}
			switch {
			case product(u, v) != 0:
				if clashes(f) != 0 {
					t.Error(f)
				}
				continue
			case clashes(f) != 4:
				t.Error(f)
			}
			for _, d := range wrong {
				f.U, f.V = d, v
				if clashes(f) != 0 {
					t.Error(f)
				}
				f.U, f.V = u, d
				if clashes(f) != 0 {
					t.Error(f)
				}
			}
		}
	}
}

// TestClashOfLimits moves the Origin of a face that reaches far along each axis from the limit to 1 beyond it.
func TestClashOfLimits(t *testing.T) {
	axes := []api.Vec{{X: 1}, {Y: 1}, {Z: 1}}
	for i := range axes {
		for _, sign := range []int{1, -1} {
			first, second, third := along(api.Vec{}, sign, axes[i]), axes[(i+1)%3], axes[(i+2)%3]
			back := along(api.Vec{}, -1, first)
			long := api.Face{Origin: along(api.Vec{}, api.MaxTicks, first), U: back, V: second, W: api.MaxTicks, H: 10}
			across := api.Face{Origin: along(along(vec(0, 0, 0), 5, second), -5, third), U: first, V: third, W: 10, H: 10}
			if !part.Clash(long, across) || !part.Clash(across, long) {
				t.Error(long, across)
			}
			long.Origin = along(long.Origin, 1, first)
			if part.Clash(long, across) || part.Clash(across, long) {
				t.Error(long, across)
			}
			// Likewise where V reaches far.
			long.U, long.V, long.W, long.H = second, back, 10, api.MaxTicks
			if part.Clash(long, across) || part.Clash(across, long) {
				t.Error(long, across)
			}
		}
	}
}

func TestClashOfAnyNumbers(t *testing.T) {
	floor := api.Face{U: vec(1, 0, 0), V: vec(0, 1, 0), W: 10, H: 10}
	for i, set := range []func(f *api.Face, n int){
		func(f *api.Face, n int) { f.Origin.X = n },
		func(f *api.Face, n int) { f.Origin.Y = n },
		func(f *api.Face, n int) { f.Origin.Z = n },
		func(f *api.Face, n int) { f.U.X = n },
		func(f *api.Face, n int) { f.V.Z = n },
		func(f *api.Face, n int) { f.W = n },
		func(f *api.Face, n int) { f.H = n },
		func(f *api.Face, n int) { f.Origin.Z, f.H = -n, n },
	} {
		for _, n := range wild {
			wall := api.Face{Origin: vec(5, 5, -5), U: vec(1, 0, 0), V: vec(0, 0, 1), W: 10, H: 10}
			set(&wall, n)
			if part.Clash(floor, wall) || part.Clash(wall, floor) {
				t.Error(i, n)
			}
		}
	}
}
