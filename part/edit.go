package part

import (
	"slices"

	"sheetmetal/api"
	"sheetmetal/copies"
)

// Apply returns the part after an edit.
func Apply(p api.Part, e api.Edit) (api.Part, api.Errno) {
	if err := Validate(p); err != api.OK {
		return api.Part{}, err
	}
	if err := checkEdit(p, e); err != api.OK {
		return api.Part{}, err
	}
	changed := edited(p, e)
	if err := Validate(changed); err != api.OK {
		return api.Part{}, err
	}
	return changed, api.OK
}

// checkEdit returns the error by which an edit of p cannot be made.
func checkEdit(p api.Part, e api.Edit) api.Errno {
	exists := true
	switch e.Kind {
	case api.SetBase, api.AddFlange, api.AddHole:
	case api.SetFlange, api.RemoveFlange:
		exists = hasFlange(p, e.Index)
	case api.RemoveHole:
		exists = hasHole(p, e.Index)
	default:
		return api.ErrArg
	}
	if !exists {
		return api.ErrNone
	}
	if e.Kind == api.RemoveFlange && carries(p, e.Index+1) {
		return api.ErrOrder
	}
	return api.OK
}

// carries reports whether a flange or hole belongs to a face.
func carries(p api.Part, face int) bool {
	return slices.ContainsFunc(p.Flanges, func(f api.Flange) bool { return f.Parent == face }) ||
		slices.ContainsFunc(p.Holes, func(x api.Hole) bool { return x.Face == face })
}

// edited returns the part, valid or not, after an edit that can be made.
func edited(p api.Part, e api.Edit) api.Part {
	p = copies.Part(p)
	switch e.Kind {
	case api.SetBase:
		p.Width, p.Height = e.Width, e.Height
	case api.SetFlange:
		p.Flanges[e.Index] = e.Flange
	case api.AddFlange:
		p.Flanges = append(p.Flanges, e.Flange)
	case api.RemoveFlange:
		p.Flanges = slices.Delete(p.Flanges, e.Index, e.Index+1)
		lowerFaces(p, e.Index+1)
	case api.AddHole:
		p.Holes = append(p.Holes, e.Hole)
	case api.RemoveHole:
		p.Holes = slices.Delete(p.Holes, e.Index, e.Index+1)
	}
	return p
}

// lowerFaces lowers, in the lists of p, the numbers of the faces that come after one that was removed.
func lowerFaces(p api.Part, removed int) {
	for i := range p.Flanges {
		if p.Flanges[i].Parent > removed {
			p.Flanges[i].Parent--
		}
	}
	for i := range p.Holes {
		if p.Holes[i].Face > removed {
			p.Holes[i].Face--
		}
	}
}
