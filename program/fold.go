package program

import (
	"sheetmetal/api"
	"sheetmetal/flat"
	"sheetmetal/geom"
	"sheetmetal/part"
)

// folded is a face of a flat pattern, with its place in the flat pattern and that in space. Both places have the same local coordinates: so in the flat pattern a flange begins behind its bend line, by its deduction.
type folded struct {
	flat, space api.Face
}

// Fold returns the faces that a flat pattern has when the bends of a mask are made.
func Fold(f api.Flat, mask int) ([]api.Face, api.Errno) {
	l, e := fold(f, mask)
	if e != api.OK {
		return nil, e
	}
	var faces []api.Face
	for _, face := range l {
		faces = append(faces, face.space)
	}
	return faces, api.OK
}

// FoldHoles returns the holes and forms that a flat pattern has in space when the bends of a mask are made.
func FoldHoles(f api.Flat, mask int) ([]api.Face, api.Errno) {
	l, e := fold(f, mask)
	if e != api.OK {
		return nil, e
	}
	var holes []api.Face
	for _, list := range [][]api.Rect{f.Cuts, f.Forms} {
		for _, r := range list {
			i, found := faceAround(f.Rects, r)
			if !found {
				return nil, api.ErrShape
			}
			holes = append(holes, l[i].hole(r))
		}
	}
	return holes, api.OK
}

// fold returns the faces of a flat pattern, of which those of the mask are bent.
func fold(f api.Flat, mask int) ([]folded, api.Errno) {
	if _, e := flat.Bounds(f); e != api.OK {
		return nil, e
	}
	if !areBends(f) || !within(mask, 0, fullMask(f.Bends)) {
		return nil, api.ErrArg
	}
	l := []folded{base(f.Rects[0])}
	for i, b := range f.Bends {
		outward, found := outwardOf(b.Line, f.Rects[i+1], f.Rects[b.Parent])
		if !found {
			return nil, api.ErrShape
		}
		l = append(l, l[b.Parent].flange(b, outward, f.Rects[i+1], mask&(1<<i) != 0))
	}
	return l, api.OK
}

// areBends reports whether a flat pattern has a bend for each flange, with numbers that may be.
func areBends(f api.Flat) bool {
	if len(f.Bends) != len(f.Rects)-1 || len(f.Bends) > api.MaxFlanges {
		return false
	}
	for i, b := range f.Bends {
		if b.Flange != i || !within(b.Parent, 0, i) || !isAngle(b.Angle) || !within(b.Deduct, 0, api.MaxTicks) {
			return false
		}
	}
	return true
}

func isAngle(n int) bool {
	switch n {
	case 90, -90, 180, -180:
		return true
	}
	return false
}

// fullMask returns the mask that has one flange for each element of l.
func fullMask[T any](l []T) int {
	return 1<<len(l) - 1
}

// outwardOf returns the direction from a parent over a bend line to a flange, or false if the line is not a whole side of the flange and a part of the opposite side of the parent.
func outwardOf(line api.Segment, flange, parent api.Rect) (api.Vec, bool) {
	for _, d := range []api.Vec{{X: 1}, {Y: 1}, {X: -1}, {Y: -1}} {
		if line == sideOf(flange, times(-1, d)) && isPartOf(line, sideOf(parent, d)) {
			return d, true
		}
	}
	return api.Vec{}, false
}

// sideOf returns the side of a rectangle that lies in a direction from its middle.
func sideOf(r api.Rect, direction api.Vec) api.Segment {
	s := api.Segment{X1: r.X, Y1: r.Y, X2: r.X + r.W, Y2: r.Y + r.H}
	switch direction {
	case api.Vec{X: 1}:
		s.X1 = s.X2
	case api.Vec{Y: 1}:
		s.Y1 = s.Y2
	case api.Vec{X: -1}:
		s.X2 = s.X1
	case api.Vec{Y: -1}:
		s.Y2 = s.Y1
	}
	return s
}

// isPartOf reports whether a line, with its X and Y in ascending order, lies on another one.
func isPartOf(s, whole api.Segment) bool {
	return whole.X1 <= s.X1 && s.X2 <= whole.X2 && whole.Y1 <= s.Y1 && s.Y2 <= whole.Y2
}

// base returns the first face, which stays where it is.
func base(r api.Rect) folded {
	f := api.Face{Origin: api.Vec{X: r.X, Y: r.Y}, U: api.Vec{X: 1}, V: api.Vec{Y: 1}, W: r.W, H: r.H}
	return folded{flat: f, space: f}
}

// flange returns the face of a flange with the rectangle r, which lies outward from its bend line at the face.
func (parent folded) flange(b api.BendLine, outward api.Vec, r api.Rect, bent bool) folded {
	along := api.Vec{X: outward.Y, Y: -outward.X}
	beginning := api.Vec{X: b.Line.X1, Y: b.Line.Y1}
	if along.X+along.Y < 0 {
		beginning = api.Vec{X: b.Line.X2, Y: b.Line.Y2}
	}
	w, h := r.W, r.H
	if outward.Y == 0 {
		w, h = h, w
	}
	f := api.Face{Origin: plus(beginning, times(-b.Deduct, outward)), U: along, V: outward, W: w, H: h + b.Deduct}
	space := api.Face{Origin: parent.point(beginning), U: parent.direction(along), V: parent.direction(outward), W: f.W, H: f.H}
	if bent {
		space.V = turned(space.V, part.Normal(parent.space), b.Angle)
	}
	return folded{flat: f, space: space}
}

// turned returns the direction into which a bend turns the outward one, where up is the normal of the parent.
func turned(outward, up api.Vec, angle int) api.Vec {
	switch angle {
	case 90:
		return up
	case -90:
		return times(-1, up)
	}
	return times(-1, outward)
}

// hole returns a hole in space that is the rectangle r in the flat pattern.
func (f folded) hole(r api.Rect) api.Face {
	u1, v1 := f.local(api.Vec{X: r.X, Y: r.Y})
	u2, v2 := f.local(api.Vec{X: r.X + r.W, Y: r.Y + r.H})
	return api.Face{
		Origin: f.at(min(u1, u2), min(v1, v2)),
		U:      f.space.U,
		V:      f.space.V,
		W:      max(u1, u2) - min(u1, u2),
		H:      max(v1, v2) - min(v1, v2),
	}
}

// faceAround returns the first of rects that contains r.
func faceAround(rects []api.Rect, r api.Rect) (int, bool) {
	for i, face := range rects {
		if geom.Inside(r, face) {
			return i, true
		}
	}
	return 0, false
}

// point returns the point in space that a point of the flat pattern becomes.
func (f folded) point(p api.Vec) api.Vec {
	return f.at(f.local(p))
}

// direction returns the direction in space that one of the flat pattern becomes.
func (f folded) direction(d api.Vec) api.Vec {
	return plus(times(dot(d, f.flat.U), f.space.U), times(dot(d, f.flat.V), f.space.V))
}

// local returns the local coordinates of a point of the flat pattern.
func (f folded) local(p api.Vec) (u, v int) {
	from := plus(p, times(-1, f.flat.Origin))
	return dot(from, f.flat.U), dot(from, f.flat.V)
}

// at returns the point in space with local coordinates.
func (f folded) at(u, v int) api.Vec {
	return plus(f.space.Origin, plus(times(u, f.space.U), times(v, f.space.V)))
}

func plus(a, b api.Vec) api.Vec {
	return api.Vec{X: a.X + b.X, Y: a.Y + b.Y, Z: a.Z + b.Z}
}

func times(n int, v api.Vec) api.Vec {
	return api.Vec{X: n * v.X, Y: n * v.Y, Z: n * v.Z}
}

func dot(a, b api.Vec) int {
	return a.X*b.X + a.Y*b.Y + a.Z*b.Z
}
