package part

import (
	"sheetmetal/api"
	"sheetmetal/geom"
)

// ValidName reports whether s may be the name of a part, a material, a flange or a tool.
func ValidName(s string) bool {
	if len(s) < 1 || len(s) > api.MaxName || !isLetter(s[0]) || isWord(s) {
		return false
	}
	for i := range len(s) {
		if !isLetter(s[i]) && !isDigit(s[i]) {
			return false
		}
	}
	return true
}

func isLetter(b byte) bool {
	return 'a' <= b && b <= 'z'
}

func isDigit(b byte) bool {
	return '0' <= b && b <= '9'
}

// isWord reports whether s is one of the words of the texts.
func isWord(s string) bool {
	switch s {
	case "part", "material", "base", "flange", "hole", "cut", "form",
		"east", "south", "west", "north", "up", "down", "closeup", "closedown",
		"grain", "x", "y", "table", "angle",
		"machine", "punch", "die", "frame", "gauge", "poly", "stations":
		return true
	}
	return false
}

// Validate returns the first error of p.
func Validate(p api.Part) api.Errno {
	switch {
	case !ValidName(p.Name) || !ValidName(p.Material):
		return api.ErrName
	case !validBase(p):
		return api.ErrArg
	case len(p.Flanges) > api.MaxFlanges || len(p.Holes) > api.MaxHoles:
		return api.ErrLarge
	}
	for i := range p.Flanges {
		if e := checkFlange(p, i); e != api.OK {
			return e
		}
	}
	switch {
	case anyPair(p.Flanges, flangesOverlap):
		return api.ErrOverlap
	case !validHoles(p):
		return api.ErrArg
	case anyPair(p.Holes, holesTouch):
		return api.ErrOverlap
	case anyPair(faces(p, fullMask(p)), Clash):
		return api.ErrShape
	}
	return api.OK
}

// validBase reports whether all numbers of p outside of its lists are valid.
func validBase(p api.Part) bool {
	return within(p.Gauge, 1, api.MaxGauge) && within(p.Grain, api.AnyGrain, api.GrainY) &&
		validLength(p.Width) && validLength(p.Height)
}

// checkFlange returns the error of the flange i, for valid flanges before it.
func checkFlange(p api.Part, i int) api.Errno {
	f := p.Flanges[i]
	if !ValidName(f.Name) {
		return api.ErrName
	}
	for _, earlier := range p.Flanges[:i] {
		if earlier.Name == f.Name {
			return api.ErrName
		}
	}
	if !within(f.Parent, 0, i) || !validSide(f) || !validAngle(f.Angle) || !validLength(f.Width) || !validLength(f.Length) {
		return api.ErrArg
	}
	w, h := size(p, f.Parent)
	side := turnedTo(api.Face{W: w, H: h}, f.Side)
	// Offset is not added to Width: the sum of any two numbers may wrap.
	if !within(f.Offset, 0, side.W-f.Width) {
		return api.ErrArg
	}
	return api.OK
}

// validSide reports whether the flange is at a side that its parent has. The South side of a flange is its own bend line.
func validSide(f api.Flange) bool {
	return within(f.Side, api.East, api.North) && (f.Side != api.South || f.Parent == 0)
}

func validAngle(angle int) bool {
	switch angle {
	case 90, -90, 180, -180:
		return true
	}
	return false
}

func validLength(n int) bool {
	return within(n, 1, api.MaxLength)
}

// validHoles reports whether each hole, taken by itself, is valid.
func validHoles(p api.Part) bool {
	for _, x := range p.Holes {
		if !hasFace(p, x.Face) || x.Kind != api.CutHole && x.Kind != api.FormHole {
			return false
		}
		w, h := size(p, x.Face)
		if !withinBorder(x.X, x.W, w) || !withinBorder(x.Y, x.H, h) {
			return false
		}
	}
	return true
}

// withinBorder reports whether the interval from start to start + length has a length and lies at least 1 away from 0 and from end.
func withinBorder(start, length, end int) bool {
	return within(length, 1, end) && within(start, 1, end-1-length)
}

// flangesOverlap reports whether two flanges are at the same side of the same face and their bend lines have a common inner point.
func flangesOverlap(a, b api.Flange) bool {
	return a.Parent == b.Parent && a.Side == b.Side && a.Offset < b.Offset+b.Width && b.Offset < a.Offset+a.Width
}

// holesTouch reports whether two holes are in the same face and overlap or touch.
func holesTouch(a, b api.Hole) bool {
	return a.Face == b.Face && geom.Distance(rectOf(a), rectOf(b)) == 0
}

func rectOf(x api.Hole) api.Rect {
	return api.Rect{X: x.X, Y: x.Y, W: x.W, H: x.H}
}

// anyPair reports whether bad holds for two elements of l.
func anyPair[T any](l []T, bad func(a, b T) bool) bool {
	for i, b := range l {
		for _, a := range l[:i] {
			if bad(a, b) {
				return true
			}
		}
	}
	return false
}

// within reports whether n is from low to high.
func within(n, low, high int) bool {
	return low <= n && n <= high
}
