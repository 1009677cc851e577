package brake_test

import (
	"math/rand"
	"reflect"
	"slices"
	"testing"

	"sheetmetal/api"
	"sheetmetal/brake"
	"sheetmetal/geom"
	"sheetmetal/part"
)

// plate returns a part with a base of 40 by 30.
func plate(flanges ...api.Flange) api.Part {
	return api.Part{Name: "plate", Material: "steel", Gauge: 10, Width: 40, Height: 30, Flanges: flanges}
}

// u is the part u of DOC.md.
func u() api.Part {
	return plate(
		api.Flange{Name: "a", Side: api.East, Width: 30, Length: 20, Angle: 90},
		api.Flange{Name: "b", Side: api.West, Width: 30, Length: 20, Angle: 90},
	)
}

// tower is a part with a chain of flanges at the east side, and one at the north side.
func tower() api.Part {
	return plate(
		api.Flange{Name: "f1", Side: api.East, Offset: 4, Width: 20, Length: 15, Angle: 90},
		api.Flange{Name: "f2", Parent: 1, Side: api.North, Offset: 3, Width: 12, Length: 6, Angle: -90},
		api.Flange{Name: "n", Side: api.North, Offset: 5, Width: 25, Length: 7, Angle: -180},
		api.Flange{Name: "f3", Parent: 2, Side: api.West, Offset: 1, Width: 4, Length: 3, Angle: 180},
	)
}

// randomPart returns a valid part whose lengths are at most size.
func randomPart(r *rand.Rand, size int) api.Part {
	length := func() int { return 1 + r.Intn(size) }
	p := api.Part{Name: "p", Material: "m", Gauge: 1, Width: length(), Height: length()}
	for range 30 {
		if len(p.Flanges) == api.MaxFlanges {
			break
		}
		angles := []int{90, -90, 90, -90, 180, -180}
		f := api.Flange{
			Name: string(rune('a' + len(p.Flanges))), Parent: r.Intn(len(p.Flanges) + 1), Side: r.Intn(4),
			Offset: r.Intn(size), Width: length(), Length: length(), Angle: angles[r.Intn(len(angles))],
		}
		longer := p
		longer.Flanges = append(slices.Clone(p.Flanges), f)
		if part.Validate(longer) == api.OK && r.Intn(4) > 0 {
			p = longer
		}
	}
	return p
}

// brokenParts are parts that are not valid, with their errors.
func brokenParts() map[api.Errno]api.Part {
	long := plate(u().Flanges...)
	long.Flanges[0].Offset = 1
	return map[api.Errno]api.Part{
		api.ErrName:    {},
		api.ErrArg:     long,
		api.ErrLarge:   plate(make([]api.Flange, api.MaxFlanges+1)...),
		api.ErrOverlap: plate(u().Flanges[0], api.Flange{Name: "c", Side: api.East, Width: 1, Length: 1, Angle: 90}),
	}
}

func TestProject(t *testing.T) {
	for _, x := range []struct {
		name               string
		p                  api.Part
		mask, flange, held int
		want               []brake.Shape
	}{
		{"a of u, b is bent", u(), 2, 0, 0, []brake.Shape{
			{Spots: spots(-40, 0, 0, 0, 0, 0, -40, 0), Hi: 30},
			{Spots: spots(0, 0, 0, 0, 20, 0, 20, 0), Hi: 30, Moving: true},
			{Spots: spots(-40, 0, -40, 0, -40, 20, -40, 20), Hi: 30},
		}},
		{"the same, held at a", u(), 2, 0, 1, []brake.Shape{
			{Spots: spots(40, 0, 0, 0, 0, 0, 40, 0), Hi: 30, Moving: true},
			{Spots: spots(0, 0, 0, 0, -20, 0, -20, 0), Hi: 30},
			{Spots: spots(40, 0, 40, 0, 40, 20, 40, 20), Hi: 30, Moving: true},
		}},
		{"f1 of tower, all others are bent", tower(), 14, 0, 0, []brake.Shape{
			{Spots: spots(-40, 0, 0, 0, 0, 0, -40, 0), Lo: -4, Hi: 26},
			{Spots: spots(0, 0, 0, 0, 15, 0, 15, 0), Lo: 0, Hi: 20, Moving: true},
			{Spots: spots(15, 0, 15, 0, 15, -6, 15, -6), Lo: 3, Hi: 15, Moving: true},
			{Spots: spots(-35, 0, -10, 0, -10, 0, -35, 0), Lo: -4, Hi: 3},
			{Spots: spots(15, -1, 15, -5, 15, -5, 15, -1), Lo: 3, Hi: 6, Moving: true},
		}},
		{"n of tower, bent down: up is down", tower(), 1, 2, 0, []brake.Shape{
			{Spots: spots(-30, 0, -30, 0, 0, 0, 0, 0), Lo: -5, Hi: 35},
			{Spots: spots(-4, 0, -24, 0, -24, -15, -4, -15), Lo: 35, Hi: 35},
			{Spots: spots(-7, -15, -19, -15, -19, -21, -7, -21), Lo: 35, Hi: 35},
			{Spots: spots(0, 0, 0, 0, 7, 0, 7, 0), Lo: 0, Hi: 25, Moving: true},
			{Spots: spots(-7, -16, -7, -20, -4, -20, -4, -16), Lo: 35, Hi: 35},
		}},
		{"f2 of tower, held at itself", tower(), 0, 1, 1, []brake.Shape{
			{Spots: spots(55, 0, 15, 0, 15, 0, 55, 0), Lo: -7, Hi: 23, Moving: true},
			{Spots: spots(15, 0, 15, 0, 0, 0, 0, 0), Lo: -3, Hi: 17, Moving: true},
			{Spots: spots(0, 0, 0, 0, -6, 0, -6, 0), Lo: 0, Hi: 12},
			{Spots: spots(50, 0, 25, 0, 25, 0, 50, 0), Lo: -14, Hi: -7, Moving: true},
			{Spots: spots(-1, 0, -5, 0, -5, 0, -1, 0), Lo: -3, Hi: 0},
		}},
	} {
		l, e := brake.Project(x.p, x.mask, x.flange, x.held)
		if e != api.OK || !reflect.DeepEqual(l, x.want) {
			t.Error(x.name, l, e)
		}
	}
}

// seenFromHeld returns x, y and s of a corner, seen from the held side. For the flange's side this is the flange itself, so that it counts as held also after the bend.
func seenFromHeld(p api.Part, faces []api.Face, flange, held int, c api.Vec) (x, y, s int) {
	face := faces[flange+1]
	c = api.Vec{X: c.X - face.Origin.X, Y: c.Y - face.Origin.Y, Z: c.Z - face.Origin.Z}
	dot := func(v api.Vec) int { return c.X*v.X + c.Y*v.Y + c.Z*v.Z }
	up := 1
	if p.Flanges[flange].Angle < 0 {
		up = -1
	}
	if held == 1 {
		return -dot(face.V), up * dot(part.Normal(face)), dot(face.U)
	}
	n := part.Normal(faces[p.Flanges[flange].Parent])
	// The outward direction, d and n are at right angles to each other.
	outward := part.Normal(api.Face{U: n, V: face.U})
	return dot(outward), up * dot(n), dot(face.U)
}

// TestProjectAndFaces compares what is seen before and after a bend: the held side stays, and the moving one is turned up by the angle.
func TestProjectAndFaces(t *testing.T) {
	r := rand.New(rand.NewSource(11))
	for range 300 {
		p := randomPart(r, 20)
		for mask := range 1 << len(p.Flanges) {
			for flange := range p.Flanges {
				if mask&(1<<flange) == 0 {
					checkBefore(t, p, mask, flange, 0)
					checkBefore(t, p, mask, flange, 1)
				}
			}
		}
	}
}

func checkBefore(t *testing.T, p api.Part, mask, flange, held int) {
	t.Helper()
	shapes, e := brake.Project(p, mask, flange, held)
	after, e2 := part.Faces(p, mask|1<<flange)
	moved, e3 := part.Moves(p, flange)
	if e != api.OK || e2 != api.OK || e3 != api.OK || len(shapes) != len(after) {
		t.Fatal(p, mask, flange, held, shapes, e, e2, e3)
	}
	for i, shape := range shapes {
		station := 0
		if shape.Moving {
			station = max(p.Flanges[flange].Angle, -p.Flanges[flange].Angle) / 30
		}
		if shape.Moving != (slices.Contains(moved, i) == (held == 0)) || len(shape.Spots) != 4 {
			t.Error("moving", p, mask, flange, held, i)
		}
		var along []int
		for k, c := range part.Corners(after[i]) {
			x, y, s := seenFromHeld(p, after, flange, held, c)
			along = append(along, s)
			turned, e := geom.Turn(shape.Spots[k], station)
			if want := (api.Point{X: api.Root{A: 2 * x}, Y: api.Root{A: 2 * y}}); turned != want || e != api.OK {
				t.Error("corner", p, mask, flange, held, i, k, turned, want)
			}
		}
		if shape.Lo != slices.Min(along) || shape.Hi != slices.Max(along) {
			t.Error("along", p, mask, flange, held, i, shape)
		}
	}
}

func TestProjectErrors(t *testing.T) {
	for _, x := range [][3]int{
		{1, 0, 0}, {3, 1, 1}, {4, 0, 0}, {-1, 0, 0}, {0, 2, 0}, {0, -1, 0}, {0, 0, 2}, {0, 0, -1}, {4, 2, 0}, {2, 1, 2},
		{wild[0], 0, 0}, {wild[1], 0, 0}, {wild[2], 0, 0}, {0, wild[0], 0}, {0, wild[1], 0}, {0, 64, 0}, {0, wild[2], 0}, {0, 0, wild[4]}, {0, 0, wild[1]},
	} {
		if l, e := brake.Project(u(), x[0], x[1], x[2]); e != api.ErrArg || len(l) != 0 {
			t.Error(x, l, e)
		}
	}
	if l, e := brake.Project(plate(), 0, 0, 0); e != api.ErrArg || len(l) != 0 {
		t.Error("no flanges", l, e)
	}
	for want, p := range brokenParts() {
		if l, e := brake.Project(p, -1, -1, 2); e != want || len(l) != 0 {
			t.Error(want, l, e)
		}
		if n, e := brake.Distance(p, -1, 2); e != want || n != 0 {
			t.Error(want, n, e)
		}
	}
}

func TestProjectIsNew(t *testing.T) {
	p := tower()
	l, _ := brake.Project(p, 0, 0, 0)
	second := slices.Clone(l[1].Spots)
	_ = append(l[0].Spots, api.Spot{X: 99})
	clear(l[0].Spots)
	if !slices.Equal(l[1].Spots, second) || !part.Equal(p, tower()) {
		t.Error("shared memory", l, p)
	}
}

func TestDistance(t *testing.T) {
	for _, x := range []struct {
		name         string
		p            api.Part
		flange, held int
		want         int
	}{
		{"a of u at the base", u(), 0, 0, 40},
		{"b of u at the base", u(), 1, 0, 40},
		{"a of u at itself", u(), 0, 1, 20},
		{"f1 of tower at the base", tower(), 0, 0, 40},
		{"f2 of tower at f1", tower(), 1, 0, 15},
		{"f2 of tower at itself", tower(), 1, 1, 6},
		{"n of tower at the base", tower(), 2, 0, 30},
		{"f3 of tower at f2", tower(), 3, 0, 12},
		{"f3 of tower at itself", tower(), 3, 1, 3},
	} {
		if n, e := brake.Distance(x.p, x.flange, x.held); n != x.want || e != api.OK {
			t.Error(x.name, n, e)
		}
	}
	for _, x := range [][2]int{{2, 0}, {-1, 0}, {0, 2}, {0, -1}, {wild[0], 0}, {wild[1], 1}, {64, 0}, {0, wild[0]}, {1, wild[1]}, {1, wild[2]}} {
		if n, e := brake.Distance(u(), x[0], x[1]); n != 0 || e != api.ErrArg {
			t.Error(x, n, e)
		}
	}
	if n, e := brake.Distance(plate(), 0, 0); n != 0 || e != api.ErrArg {
		t.Error(n, e)
	}
}

// TestDistanceOfShapes compares Distance with the shapes of each mask: it does not depend on it.
func TestDistanceOfShapes(t *testing.T) {
	r := rand.New(rand.NewSource(12))
	for range 200 {
		p := randomPart(r, 150)
		mask := r.Intn(1 << len(p.Flanges))
		for flange, f := range p.Flanges {
			for held, face := range []int{f.Parent, flange + 1} {
				shapes, e := brake.Project(p, mask&^(1<<flange), flange, held)
				if e != api.OK {
					t.Fatal(p, mask, flange, held, e)
				}
				want := -slices.MinFunc(shapes[face].Spots, func(a, b api.Spot) int { return a.X - b.X }).X
				if n, e := brake.Distance(p, flange, held); n != want || e != api.OK {
					t.Error(p, mask, flange, held, n, want, e)
				}
			}
		}
	}
}
