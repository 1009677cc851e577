package part_test

import (
	"math"
	"math/rand"
	"slices"
	"testing"

	"sheetmetal/api"
	"sheetmetal/part"
)

// vec returns a point or direction in space.
func vec(x, y, z int) api.Vec { return api.Vec{X: x, Y: y, Z: z} }

// along returns p + n*v.
func along(p api.Vec, n int, v api.Vec) api.Vec { return vec(p.X+n*v.X, p.Y+n*v.Y, p.Z+n*v.Z) }

// product returns the scalar product.
func product(a, b api.Vec) int { return a.X*b.X + a.Y*b.Y + a.Z*b.Z }

// randomPart returns a valid part with up to five flanges and up to six holes.
func randomPart(r *rand.Rand) api.Part {
	for {
		p := api.Part{Name: "p", Material: "m", Gauge: 1 + r.Intn(api.MaxGauge), Grain: r.Intn(3), Width: 5 + r.Intn(8), Height: 5 + r.Intn(8)}
		for i := range r.Intn(api.MaxFlanges + 1) {
			p.Flanges = append(p.Flanges, api.Flange{
				Name: string(rune('a' + i)), Parent: r.Intn(i + 1), Side: r.Intn(4), Offset: r.Intn(3), Width: 3 + r.Intn(5), Length: 3 + r.Intn(8),
				Angle: []int{90, -90, 180, -180}[r.Intn(4)],
			})
		}
		for range r.Intn(3) {
			p.Holes = append(p.Holes, api.Hole{
				Face: r.Intn(len(p.Flanges) + 1), Kind: 1 + r.Intn(2), X: 1 + r.Intn(3), Y: 1 + r.Intn(3), W: 1 + r.Intn(2), H: 1 + r.Intn(2),
			})
		}
		if part.Validate(p) == api.OK {
			return p
		}
	}
}

func TestFacesOfTheExample(t *testing.T) {
	base := api.Face{U: vec(1, 0, 0), V: vec(0, 1, 0), W: 40, H: 30}
	east := api.Face{Origin: vec(40, 30, 0), U: vec(0, -1, 0), W: 30, H: 20}
	west := api.Face{U: vec(0, 1, 0), W: 30, H: 20}
	for mask := range 4 {
		east.V, west.V = vec(1, 0, 0), vec(-1, 0, 0)
		if mask&1 != 0 {
			east.V = vec(0, 0, 1)
		}
		if mask&2 != 0 {
			west.V = vec(0, 0, 1)
		}
		if l, e := part.Faces(u(), mask); e != api.OK || !slices.Equal(l, []api.Face{base, east, west}) {
			t.Error(mask, l, e)
		}
	}
}

func TestFacesOfEachSideAndAngle(t *testing.T) {
	for side, x := range []struct{ origin, u, out api.Vec }{
		api.East:  {vec(40, 27, 0), vec(0, -1, 0), vec(1, 0, 0)},
		api.South: {vec(37, 0, 0), vec(-1, 0, 0), vec(0, -1, 0)},
		api.West:  {vec(0, 3, 0), vec(0, 1, 0), vec(-1, 0, 0)},
		api.North: {vec(3, 30, 0), vec(1, 0, 0), vec(0, 1, 0)},
	} {
		for angle, v := range map[int]api.Vec{90: vec(0, 0, 1), -90: vec(0, 0, -1), 180: along(api.Vec{}, -1, x.out), -180: along(api.Vec{}, -1, x.out)} {
			p := changed(u(), func(p *api.Part) {
				p.Flanges = []api.Flange{{Name: "a", Side: side, Offset: 3, Width: 20, Length: 7, Angle: angle}}
			})
			want := api.Face{Origin: x.origin, U: x.u, V: x.out, W: 20, H: 7}
			if l, e := part.Faces(p, 0); e != api.OK || len(l) != 2 || l[1] != want {
				t.Error(side, angle, l, e)
			}
			want.V = v
			if l, e := part.Faces(p, 1); e != api.OK || len(l) != 2 || l[1] != want {
				t.Error(side, angle, l, e)
			}
		}
	}
}

func TestFacesOfFlangesOfFlanges(t *testing.T) {
	l, e := part.Faces(tower(), 31)
	want := []api.Face{
		{Origin: vec(0, 0, 0), U: vec(1, 0, 0), V: vec(0, 1, 0), W: 50, H: 60},
		{Origin: vec(50, 55, 0), U: vec(0, -1, 0), V: vec(0, 0, 1), W: 40, H: 30},
		// The normal of f1 points to -X: down, f2 points to +X.
		{Origin: vec(50, 50, 30), U: vec(0, -1, 0), V: vec(1, 0, 0), W: 30, H: 25},
		// The East side of f2 begins at its far end, lies at Y 20 and points outward to -Y; closed, f3 points to +Y.
		{Origin: vec(70, 20, 30), U: vec(-1, 0, 0), V: vec(0, 1, 0), W: 15, H: 20},
		// The West side of f3 begins at its Origin and points outward to +X; closed, f4 points to -X.
		{Origin: vec(70, 22, 30), U: vec(0, 1, 0), V: vec(-1, 0, 0), W: 12, H: 10},
		// The North side of f4 lies at X 60; the normal of f4 is (Y) x (-X) = Z.
		{Origin: vec(60, 23, 30), U: vec(0, 1, 0), V: vec(0, 0, 1), W: 9, H: 8},
	}
	if e != api.OK || !slices.Equal(l, want) {
		t.Error(l, e)
	}
}

// wantFace returns the face of a flange by the table of the document.
func wantFace(parent api.Face, f api.Flange, bent bool) api.Face {
	minusU, minusV := along(api.Vec{}, -1, parent.U), along(api.Vec{}, -1, parent.V)
	w, h := parent.W, parent.H
	side := []struct {
		u, v         int
		along, width api.Vec
	}{
		{w, h, minusV, parent.U}, {w, 0, minusU, minusV}, {0, 0, parent.V, minusU}, {0, h, parent.U, parent.V},
	}[f.Side]
	begin := along(along(parent.Origin, side.u, parent.U), side.v, parent.V)
	face := api.Face{Origin: along(begin, f.Offset, side.along), U: side.along, V: side.width, W: f.Width, H: f.Length}
	if bent {
		sign, v := 1, part.Normal(parent)
		if f.Angle < 0 {
			sign = -1
		}
		if f.Angle == 180 || f.Angle == -180 {
			sign, v = -1, side.width
		}
		face.V = along(api.Vec{}, sign, v)
	}
	return face
}

func TestFacesOfRandomParts(t *testing.T) {
	r := rand.New(rand.NewSource(1))
	for range 2000 {
		p := randomPart(r)
		for mask := range 1 << len(p.Flanges) {
			l, e := part.Faces(p, mask)
			if e != api.OK || len(l) != len(p.Flanges)+1 {
				t.Fatal(p, mask, l, e)
			}
			for i, f := range p.Flanges {
				if want := wantFace(l[f.Parent], f, mask&(1<<i) != 0); l[i+1] != want {
					t.Error(p, mask, i, l[i+1], want)
				}
				checkDirections(t, l[i+1])
			}
		}
	}
}

// checkDirections checks that U, V and the normal of a face are unit vectors along three axes.
func checkDirections(t *testing.T, f api.Face) {
	t.Helper()
	n := part.Normal(f)
	for _, v := range []api.Vec{f.U, f.V, n} {
		if product(v, v) != 1 {
			t.Error(f)
		}
	}
	if product(f.U, f.V) != 0 || product(f.U, n) != 0 || product(f.V, n) != 0 {
		t.Error(f)
	}
}

func TestFacesErrors(t *testing.T) {
	for want, p := range broken() {
		for _, mask := range []int{0, -1} {
			if l, e := part.Faces(p, mask); e != want || len(l) != 0 {
				t.Error(want, l, e)
			}
		}
	}
	for _, mask := range append([]int{4, 5, -1}, wild...) {
		if l, e := part.Faces(u(), mask); e != api.ErrArg || len(l) != 0 {
			t.Error(mask, l, e)
		}
	}
	flat := changed(u(), func(p *api.Part) { p.Flanges = nil })
	if l, e := part.Faces(flat, 0); e != api.OK || !slices.Equal(l, []api.Face{{U: vec(1, 0, 0), V: vec(0, 1, 0), W: 40, H: 30}}) {
		t.Error(l, e)
	}
	if l, e := part.Faces(flat, 1); e != api.ErrArg || len(l) != 0 {
		t.Error(l, e)
	}
}

func TestNormal(t *testing.T) {
	const m = math.MaxInt
	x, y, z := vec(1, 0, 0), vec(0, 1, 0), vec(0, 0, 1)
	for _, c := range []struct{ u, v, want api.Vec }{
		{x, y, z}, {y, z, x}, {z, x, y}, {y, x, vec(0, 0, -1)}, {z, y, vec(-1, 0, 0)}, {x, z, vec(0, -1, 0)}, {x, x, vec(0, 0, 0)},
		{vec(1, 2, 3), vec(5, 7, 11), vec(1, 4, -3)},
		// The products wrap: MaxInt*MaxInt is 1, MaxInt*2 is -2, and MinInt*MinInt is 0.
		{vec(m, 0, 0), vec(0, m, 0), vec(0, 0, 1)},
		{vec(0, m, 0), vec(0, 0, 2), vec(-2, 0, 0)},
		{vec(0, 0, math.MinInt), vec(math.MinInt, 0, 0), vec(0, 0, 0)},
	} {
		if n := part.Normal(api.Face{Origin: vec(9, 9, 9), U: c.u, V: c.v, W: 5, H: -3}); n != c.want {
			t.Error(c, n)
		}
	}
}

func TestCorners(t *testing.T) {
	const m = math.MaxInt
	for _, x := range []struct {
		f    api.Face
		want [4]api.Vec
	}{
		{api.Face{U: vec(0, 1, 0), V: vec(0, 0, 1), W: 30, H: 20}, [4]api.Vec{vec(0, 0, 0), vec(0, 30, 0), vec(0, 30, 20), vec(0, 0, 20)}},
		{api.Face{Origin: vec(1, 2, 3), U: vec(-1, 0, 0), V: vec(0, 0, 1), W: 4, H: 5}, [4]api.Vec{vec(1, 2, 3), vec(-3, 2, 3), vec(-3, 2, 8), vec(1, 2, 8)}},
		{api.Face{Origin: vec(1, 1, 1), U: vec(1, 2, 3), V: vec(4, 5, 6), W: -1, H: 2}, [4]api.Vec{vec(1, 1, 1), vec(0, -1, -2), vec(8, 9, 10), vec(9, 11, 13)}},
		{api.Face{Origin: vec(m, 0, 0), U: vec(1, 0, 0), V: vec(0, 2, 0), W: 1, H: m}, [4]api.Vec{vec(m, 0, 0), vec(-m-1, 0, 0), vec(-m-1, -2, 0), vec(m, -2, 0)}},
		{api.Face{}, [4]api.Vec{}},
	} {
		if c := part.Corners(x.f); c != x.want {
			t.Error(x.f, c)
		}
	}
}

func TestSize(t *testing.T) {
	for face, want := range [][2]int{{50, 60}, {40, 30}, {30, 25}, {15, 20}, {12, 10}, {9, 8}} {
		if w, h, e := part.Size(tower(), face); w != want[0] || h != want[1] || e != api.OK {
			t.Error(face, w, h, e)
		}
	}
	for _, face := range append([]int{-1, 6}, wild...) {
		if w, h, e := part.Size(tower(), face); w != 0 || h != 0 || e != api.ErrNone {
			t.Error(face, w, h, e)
		}
	}
	for want, p := range broken() {
		for _, face := range []int{0, 9} {
			if w, h, e := part.Size(p, face); w != 0 || h != 0 || e != want {
				t.Error(want, face, w, h, e)
			}
		}
	}
}

func TestMoves(t *testing.T) {
	// A tree: c and d belong to a, e to c.
	tree := api.Part{Name: "tree", Material: "m", Gauge: 1, Width: 40, Height: 30, Flanges: []api.Flange{
		{Name: "a", Parent: 0, Side: api.East, Width: 30, Length: 20, Angle: 90},
		{Name: "b", Parent: 0, Side: api.West, Width: 30, Length: 5, Angle: 90},
		{Name: "c", Parent: 1, Side: api.North, Width: 30, Length: 5, Angle: -90},
		{Name: "d", Parent: 1, Side: api.East, Width: 20, Length: 5, Angle: -90},
		{Name: "e", Parent: 3, Side: api.North, Width: 30, Length: 5, Angle: 90},
	}}
	for _, x := range []struct {
		p    api.Part
		want [][]int
	}{
		{u(), [][]int{{1}, {2}}},
		{tree, [][]int{{1, 3, 4, 5}, {2}, {3, 5}, {4}, {5}}},
		{tower(), [][]int{{1, 2, 3, 4, 5}, {2, 3, 4, 5}, {3, 4, 5}, {4, 5}, {5}}},
	} {
		for flange, want := range x.want {
			if l, e := part.Moves(x.p, flange); e != api.OK || !slices.Equal(l, want) {
				t.Error(x.p.Name, flange, l, e)
			}
		}
	}
	for _, flange := range append([]int{-1, 2}, wild...) {
		if l, e := part.Moves(u(), flange); e != api.ErrNone || len(l) != 0 {
			t.Error(flange, l, e)
		}
	}
	for want, p := range broken() {
		for _, flange := range []int{0, 9} {
			if l, e := part.Moves(p, flange); e != want || len(l) != 0 {
				t.Error(want, flange, l, e)
			}
		}
	}
}

func TestHoleFace(t *testing.T) {
	p := u()
	p.Holes = []api.Hole{{Face: 0, Kind: api.CutHole, X: 3, Y: 4, W: 5, H: 6}, {Face: 1, Kind: api.FormHole, X: 7, Y: 2, W: 3, H: 4}}
	base := api.Face{Origin: vec(3, 4, 0), U: vec(1, 0, 0), V: vec(0, 1, 0), W: 5, H: 6}
	// The Origin of the face 1 is 40 30 0 and its U is -Y.
	flat := api.Face{Origin: vec(42, 23, 0), U: vec(0, -1, 0), V: vec(1, 0, 0), W: 3, H: 4}
	bent := api.Face{Origin: vec(40, 23, 2), U: vec(0, -1, 0), V: vec(0, 0, 1), W: 3, H: 4}
	for _, x := range []struct {
		hole, mask int
		want       api.Face
		e          api.Errno
	}{
		{0, 0, base, api.OK}, {0, 3, base, api.OK}, {1, 0, flat, api.OK}, {1, 2, flat, api.OK}, {1, 1, bent, api.OK}, {1, 3, bent, api.OK},
		{2, 0, api.Face{}, api.ErrNone}, {-1, 0, api.Face{}, api.ErrNone}, {math.MaxInt, 0, api.Face{}, api.ErrNone}, {math.MinInt, 0, api.Face{}, api.ErrNone},
		{0, -1, api.Face{}, api.ErrArg}, {1, 4, api.Face{}, api.ErrArg}, {1, math.MaxInt, api.Face{}, api.ErrArg}, {1, math.MinInt, api.Face{}, api.ErrArg},
		{2, 4, api.Face{}, api.ErrNone}, {-1, -1, api.Face{}, api.ErrNone},
	} {
		if f, e := part.HoleFace(p, x.hole, x.mask); f != x.want || e != x.e {
			t.Error(x, f, e)
		}
	}
	for want, p := range broken() {
		for _, n := range []int{0, -1} {
			if f, e := part.HoleFace(p, n, n); f != (api.Face{}) || e != want {
				t.Error(want, n, f, e)
			}
		}
	}
}
