package brake

import (
	"slices"

	"sheetmetal/api"
	"sheetmetal/part"
)

// Project returns the faces as they are seen along the bend line of a flange that is bent next.
func Project(p api.Part, mask, flange, held int) ([]Shape, api.Errno) {
	if e := part.Validate(p); e != api.OK {
		return nil, e
	}
	if !isMask(p, mask) || !hasFlange(p, flange) || has(mask, flange) || !isChoice(held) {
		return nil, api.ErrArg
	}
	return project(p, mask, flange, held), api.OK
}

// Distance returns how far the held face at the bend line reaches behind it.
func Distance(p api.Part, flange, held int) (int, api.Errno) {
	// All flanges may lie flat: those that are bent do not change the two faces at the bend line.
	shapes, e := Project(p, 0, flange, held)
	if e != api.OK {
		return 0, e
	}
	return distance(p, shapes, flange, held), api.OK
}

// distance is Distance for the shapes of any mask.
func distance(p api.Part, shapes []Shape, flange, held int) int {
	face := flange + 1
	if held == 0 {
		face = p.Flanges[flange].Parent
	}
	furthest := 0
	for _, s := range shapes[face].Spots {
		furthest = max(furthest, -s.X)
	}
	return furthest
}

// project is Project for valid arguments.
func project(p api.Part, mask, flange, held int) []Shape {
	faces, _ := part.Faces(p, mask)
	moved, _ := part.Moves(p, flange)
	seen := viewOf(faces, p.Flanges[flange], flange, held)
	var shapes []Shape
	for i, f := range faces {
		s := seen.shape(f)
		s.Moving = slices.Contains(moved, i) == (held == 0)
		shapes = append(shapes, s)
	}
	return shapes
}

// view is the system of coordinates in which a bend is seen. It may be left-handed, as the direction along the bend line is the same for both held sides.
type view struct {
	origin, x, y, along api.Vec
}

// viewOf returns the view of a bend; faces are those before it.
func viewOf(faces []api.Face, f api.Flange, flange, held int) view {
	face := faces[flange+1]
	seen := view{origin: face.Origin, x: face.V, y: part.Normal(faces[f.Parent]), along: face.U}
	if held == 1 {
		seen.x = opposite(seen.x)
	}
	if f.Angle < 0 {
		seen.y = opposite(seen.y)
	}
	return seen
}

// shape returns the shape, not moving, of a face.
func (a view) shape(f api.Face) Shape {
	var s Shape
	var along []int
	for _, corner := range part.Corners(f) {
		c := minus(corner, a.origin)
		s.Spots = append(s.Spots, api.Spot{X: product(c, a.x), Y: product(c, a.y)})
		along = append(along, product(c, a.along))
	}
	s.Lo, s.Hi = slices.Min(along), slices.Max(along)
	return s
}

func opposite(v api.Vec) api.Vec {
	return minus(api.Vec{}, v)
}

func minus(a, b api.Vec) api.Vec {
	return api.Vec{X: a.X - b.X, Y: a.Y - b.Y, Z: a.Z - b.Z}
}

// product returns the scalar product.
func product(a, b api.Vec) int {
	return a.X*b.X + a.Y*b.Y + a.Z*b.Z
}
