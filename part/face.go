package part

import "sheetmetal/api"

// Faces returns the faces of p, where the flanges of the mask are bent and the others lie in the plane of their parent.
func Faces(p api.Part, mask int) ([]api.Face, api.Errno) {
	if e := Validate(p); e != api.OK {
		return nil, e
	}
	if !within(mask, 0, fullMask(p)) {
		return nil, api.ErrArg
	}
	return faces(p, mask), api.OK
}

// HoleFace returns the rectangle of a hole in space.
func HoleFace(p api.Part, hole, mask int) (api.Face, api.Errno) {
	if e := Validate(p); e != api.OK {
		return api.Face{}, e
	}
	if !hasHole(p, hole) {
		return api.Face{}, api.ErrNone
	}
	l, e := Faces(p, mask)
	if e != api.OK {
		return api.Face{}, e
	}
	x := p.Holes[hole]
	f := l[x.Face]
	return api.Face{Origin: pointOf(f, x.X, x.Y), U: f.U, V: f.V, W: x.W, H: x.H}, api.OK
}

// Moves returns the faces that move when a flange is bent.
func Moves(p api.Part, flange int) ([]int, api.Errno) {
	if e := Validate(p); e != api.OK {
		return nil, e
	}
	if !hasFlange(p, flange) {
		return nil, api.ErrNone
	}
	var l []int
	moves := make([]bool, len(p.Flanges)+1)
	for i, f := range p.Flanges {
		// A parent comes before its flanges, so it is known by now whether it moves.
		moves[i+1] = i == flange || moves[f.Parent]
		if moves[i+1] {
			l = append(l, i+1)
		}
	}
	return l, api.OK
}

// Normal returns the product U x V of a face.
func Normal(f api.Face) api.Vec {
	return api.Vec{
		X: f.U.Y*f.V.Z - f.U.Z*f.V.Y,
		Y: f.U.Z*f.V.X - f.U.X*f.V.Z,
		Z: f.U.X*f.V.Y - f.U.Y*f.V.X,
	}
}

// Corners returns the corners of a face, going around it: from its Origin along U, then along V, and back along U.
func Corners(f api.Face) [4]api.Vec {
	return [4]api.Vec{f.Origin, pointOf(f, f.W, 0), pointOf(f, f.W, f.H), pointOf(f, 0, f.H)}
}

// faces is Faces for a part whose flanges are valid and a mask of them.
func faces(p api.Part, mask int) []api.Face {
	l := []api.Face{{U: api.Vec{X: 1}, V: api.Vec{Y: 1}, W: p.Width, H: p.Height}}
	for i, f := range p.Flanges {
		l = append(l, flangeFace(l[f.Parent], f, mask&(1<<i) != 0))
	}
	return l
}

// flangeFace returns the face of a flange.
func flangeFace(parent api.Face, f api.Flange, bent bool) api.Face {
	side := turnedTo(parent, f.Side)
	face := api.Face{Origin: pointOf(side, f.Offset, side.H), U: side.U, V: side.V, W: f.Width, H: f.Length}
	if bent {
		face.V = bentDirection(side, f.Angle)
	}
	return face
}

// bentDirection returns the direction in which a flange points that is bent at the North side of a face.
func bentDirection(f api.Face, angle int) api.Vec {
	switch angle {
	case 90:
		return Normal(f)
	case -90:
		return times(-1, Normal(f))
	}
	return times(-1, f.V)
}

// turnedTo returns the same rectangle with local coordinates in which the side is its North side: U is the direction of the side, V points outward, and W is the length of the side. The normal stays as it is.
func turnedTo(f api.Face, side int) api.Face {
	// The sides follow one another by quarter turns, so each case adds its own turn to those of the sides that are nearer to North.
	switch side {
	case api.West:
		f = quarter(f)
		fallthrough
	case api.South:
		f = quarter(f)
		fallthrough
	case api.East:
		f = quarter(f)
	}
	return f
}

// quarter returns the same rectangle with local coordinates in which its East side is the North side.
func quarter(f api.Face) api.Face {
	return api.Face{Origin: pointOf(f, 0, f.H), U: times(-1, f.V), V: f.U, W: f.H, H: f.W}
}

// pointOf returns the point of a face with the local coordinates u and v.
func pointOf(f api.Face, u, v int) api.Vec {
	return plus(f.Origin, plus(times(u, f.U), times(v, f.V)))
}

func plus(a, b api.Vec) api.Vec {
	return api.Vec{X: a.X + b.X, Y: a.Y + b.Y, Z: a.Z + b.Z}
}

func times(n int, v api.Vec) api.Vec {
	return api.Vec{X: n * v.X, Y: n * v.Y, Z: n * v.Z}
}
