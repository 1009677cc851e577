package flat

import (
	"sheetmetal/api"
	"sheetmetal/geom"
	"sheetmetal/part"
)

// place is a face in the flat pattern: its size, in units, and the frame of what is left of it. The frame begins at the bend line, and the face has lost some ticks there.
type place struct {
	frame
	w, h int
	lost int
}

// above returns at which v of the frame the line v of the face (in units) lies.
func (p place) above(v int) int {
	return v*api.Scale - p.lost
}

// Heights returns the flat heights of the faces.
func Heights(p api.Part, t api.BendTable) ([]int, api.Errno) {
	l, e := places(p, t)
	if e != api.OK {
		return nil, e
	}
	var heights []int
	for _, face := range l {
		heights = append(heights, face.above(face.h))
	}
	return heights, api.OK
}

// Unfold returns the flat pattern.
func Unfold(p api.Part, t api.BendTable) (api.Flat, api.Errno) {
	l, e := places(p, t)
	if e != api.OK {
		return api.Flat{}, e
	}
	if reachesBend(p, l) {
		return api.Flat{}, api.ErrShort
	}
	f := patternOf(p, l)
	if facesMeet(p, f.Rects) {
		return api.Flat{}, api.ErrOverlap
	}
	return f, api.OK
}

// places returns the places of the faces, of which each has some height left.
func places(p api.Part, t api.BendTable) ([]place, api.Errno) {
	lost, e := deductions(p, t)
	if e != api.OK {
		return nil, e
	}
	l := []place{{w: p.Width, h: p.Height}}
	for i, f := range p.Flanges {
		l = append(l, placeOf(f, l[f.Parent], lost[i]))
	}
	for _, face := range l {
		if face.above(face.h) < 1 {
			return nil, api.ErrShort
		}
	}
	return l, api.OK
}

// deductions returns the deduction of each flange in ticks.
func deductions(p api.Part, t api.BendTable) ([]int, api.Errno) {
	if e := part.Validate(p); e != api.OK {
		return nil, e
	}
	if e := Validate(t); e != api.OK {
		return nil, e
	}
	if t.Material != p.Material || t.Gauge != p.Gauge {
		return nil, api.ErrTable
	}
	var l []int
	for _, f := range p.Flanges {
		r, e := Deduction(t, max(f.Angle, -f.Angle))
		if e != api.OK {
			return nil, e
		}
		n, e := Ticks(r)
		if e != api.OK {
			return nil, e
		}
		l = append(l, n)
	}
	return l, api.OK
}

// placeOf returns the place of a flange for that of its parent.
func placeOf(f api.Flange, parent place, lost int) place {
	u, v := beginning(f, parent)
	x, y := parent.point(u*api.Scale, parent.above(v))
	return place{frame: frame{x: x, y: y, turns: parent.turns + turnsTo(f.Side)}, w: f.Width, h: f.Length, lost: lost}
}

// beginning returns the point of the parent, in units, at which the bend line of a flange begins.
func beginning(f api.Flange, parent place) (u, v int) {
	switch f.Side {
	case api.East:
		return parent.w, parent.h - f.Offset
	case api.South:
		return parent.w - f.Offset, 0
	case api.West:
		return 0, f.Offset
	}
	return f.Offset, parent.h
}

// turnsTo returns the quarter turns counterclockwise that take the direction u of a face to the direction of a side. The sides follow one another clockwise, and North has the direction u.
func turnsTo(side int) int {
	return api.North - side
}

// reachesBend reports whether a flange or a hole reaches into the bend of the flange to which it belongs.
func reachesBend(p api.Part, l []place) bool {
	for _, f := range p.Flanges {
		parent := l[f.Parent]
		if parent.above(lowestLine(f, parent)) < 0 {
			return true
		}
	}
	for _, x := range p.Holes {
		if l[x.Face].above(x.Y) < 1 {
			return true
		}
	}
	return false
}

// lowestLine returns the lowest line v of its parent, in units, that the bend line of a flange covers.
func lowestLine(f api.Flange, parent place) int {
	_, v := beginning(f, parent)
	if f.Side == api.East {
		return v - f.Width
	}
	return v
}

// patternOf returns the flat pattern of a part, for the places of its faces.
func patternOf(p api.Part, l []place) api.Flat {
	var result api.Flat
	for _, face := range l {
		result.Rects = append(result.Rects, face.rect(api.Rect{W: face.w * api.Scale, H: face.above(face.h)}))
	}
	for _, x := range p.Holes {
		face := l[x.Face]
		r := face.rect(api.Rect{X: x.X * api.Scale, Y: face.above(x.Y), W: x.W * api.Scale, H: x.H * api.Scale})
		if x.Kind == api.CutHole {
			result.Cuts = append(result.Cuts, r)
		} else {
			result.Forms = append(result.Forms, r)
		}
	}
	for i, f := range p.Flanges {
		face := l[i+1]
		line := inOrder(face.line(api.Segment{X2: face.w * api.Scale}))
		result.Bends = append(result.Bends, api.BendLine{Flange: i, Parent: f.Parent, Line: line, Angle: f.Angle, Deduct: face.lost})
	}
	return result
}

// facesMeet reports whether two faces overlap in the flat pattern, or touch along a line that is no bend line between them.
func facesMeet(p api.Part, rects []api.Rect) bool {
	for i, f := range p.Flanges {
		// A parent comes before its flanges, so of two faces only the later one may belong to the other.
		for earlier, r := range rects[:i+1] {
			if geom.Overlap(r, rects[i+1]) || earlier != f.Parent && touchAlong(r, rects[i+1]) {
				return true
			}
		}
	}
	return false
}

// touchAlong reports whether two rectangles that do not overlap have a line of positive length in common.
func touchAlong(a, b api.Rect) bool {
	x := min(a.X+a.W, b.X+b.W) - max(a.X, b.X)
	y := min(a.Y+a.H, b.Y+b.H) - max(a.Y, b.Y)
	return x >= 0 && y >= 0 && x+y > 0
}
