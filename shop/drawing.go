package shop

import (
	"slices"

	"sheetmetal/api"
	"sheetmetal/brake"
	"sheetmetal/copies"
	"sheetmetal/flat"
	"sheetmetal/part"
)

// draw brings a new or changed drawing.
func (s *Shop) draw(p api.Part) api.Errno {
	if e := s.checkDrawing(p); e != api.OK {
		return e
	}
	i, found := s.drawingOf(p.Name)
	if !found {
		if len(s.drawings) >= api.MaxParts {
			return api.ErrLarge
		}
		s.drawings = append(s.drawings, copies.Part(p))
		return api.OK
	}
	change, e := part.Changed(s.drawings[i], p)
	if e != api.OK {
		return e
	}
	if change.Outline || change.Holes {
		if e := s.withdraw(p.Name); e != api.OK {
			return e
		}
	}
	s.drawings[i] = copies.Part(p)
	return api.OK
}

// checkDrawing returns the error of a part that can't be made in the shop.
func (s *Shop) checkDrawing(p api.Part) api.Errno {
	if e := part.Validate(p); e != api.OK {
		return e
	}
	t, e := s.tableOf(p)
	if e != api.OK {
		return e
	}
	if _, e := flat.Unfold(p, t); e != api.OK {
		return e
	}
	_, found, e := s.plan(p, 0)
	if e == api.OK && !found {
		return api.ErrStep
	}
	return e
}

// withdraw takes the pieces of a part whose drawing changes out of work: those that are nested lose their places, and those that are cut are scrapped.
func (s *Shop) withdraw(name string) api.Errno {
	var nested, cut []int
	for i, x := range s.pieces {
		if x.Part != name {
			continue
		}
		if x.State != api.Finished && s.isInProgress(i) {
			return api.ErrState
		}
		switch x.State {
		case api.Nested:
			nested = append(nested, i)
		case api.Cut:
			cut = append(cut, i)
		}
	}
	if e := s.scrap(cut, api.EvDraw); e != api.OK {
		return e
	}
	for _, i := range nested {
		s.unnest(i)
	}
	return api.OK
}

// drawingOf returns the number of the drawing of a part, or false if there is none.
func (s *Shop) drawingOf(name string) (int, bool) {
	i := slices.IndexFunc(s.drawings, func(p api.Part) bool { return p.Name == name })
	return i, i >= 0
}

// tableOf returns the table of a part.
func (s *Shop) tableOf(p api.Part) (api.BendTable, api.Errno) {
	for _, t := range s.tables {
		if t.Material == p.Material && t.Gauge == p.Gauge {
			return t, api.OK
		}
	}
	return api.BendTable{}, api.ErrTable
}

// plan returns a sequence of bends of a part from a mask on the machine as it is, and whether there is one.
func (s *Shop) plan(p api.Part, from int) ([]api.Step, bool, api.Errno) {
	t, e := s.tableOf(p)
	if e != api.OK {
		return nil, false, e
	}
	return brake.Plan(p, s.machine, t.Die, from)
}
