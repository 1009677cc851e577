package shop

import (
	"slices"

	"sheetmetal/api"
	"sheetmetal/copies"
	"sheetmetal/cut"
	"sheetmetal/nest"
)

// sheetOf returns a sheet in stock, or nil if there is none of this name.
func (s *Shop) sheetOf(name string) *sheet {
	for i := range s.stock {
		if s.stock[i].Name == name {
			return &s.stock[i]
		}
	}
	return nil
}

// itemsOf returns a sheet in stock and its cutting order.
func (s *Shop) itemsOf(name string) (*sheet, []api.Item, api.Errno) {
	x := s.sheetOf(name)
	if x == nil {
		return nil, nil, api.ErrNone
	}
	if x.phase() == bare {
		return nil, nil, api.ErrState
	}
	items, e := cut.Plan(x.layout())
	return x, items, e
}

// isInProgress reports whether a piece is in the layout of a sheet in progress.
func (s *Shop) isInProgress(number int) bool {
	return slices.ContainsFunc(s.stock, func(x sheet) bool { return x.phase() == begun && x.has(number) })
}

// receive takes a sheet into stock.
func (s *Shop) receive(x api.Sheet) api.Errno {
	if e := nest.ValidateSheet(x); e != api.OK {
		return e
	}
	if slices.Contains(s.names, x.Name) {
		return api.ErrName
	}
	if len(s.stock) >= api.MaxSheets {
		return api.ErrLarge
	}
	s.stock = append(s.stock, sheet{Sheet: copies.Sheet(x)})
	s.names = append(s.names, x.Name)
	return api.OK
}

// remove takes a sheet out of stock, if it is there.
func (s *Shop) remove(name string) {
	s.stock = slices.DeleteFunc(s.stock, func(x sheet) bool { return x.Name == name })
}

// reject scraps all pieces of a sheet that is of another material.
func (s *Shop) reject(name string) api.Errno {
	if !slices.Contains(s.names, name) {
		return api.ErrNone
	}
	var l []int
	for i, x := range s.pieces {
		if x.Made.Sheet == name && x.State != api.Scrapped {
			l = append(l, i)
		}
	}
	if e := s.scrap(l, api.EvWrong); e != api.OK {
		return e
	}
	s.remove(name)
	return api.OK
}

// nest gives places to the waiting pieces for which there are some.
func (s *Shop) nest() {
	for i, x := range s.pieces {
		if x.State == api.Waiting {
			s.place(i)
		}
	}
}

// place nests a waiting piece on the first sheet on which it finds a place.
func (s *Shop) place(number int) {
	x := &s.pieces[number]
	drawing, found := s.drawingOf(x.Part)
	if !found {
		return
	}
	p := s.drawings[drawing]
	t, e := s.tableOf(p)
	if e != api.OK {
		return
	}
	blank, e := nest.PieceOf(p, t)
	if e != api.OK {
		return
	}
	for i := range s.stock {
		on := &s.stock[i]
		if placed, found := on.fit(blank, s.settings); found {
			on.nested = append(on.nested, nested{number: number, placed: placed})
			x.State, x.Sheet, x.drawing = api.Nested, on.Name, p
			return
		}
	}
}

// unnest takes a nested piece from its place; it is waiting again.
func (s *Shop) unnest(number int) {
	x := s.pieces[number]
	if on := s.sheetOf(x.Made.Sheet); on != nil {
		on.nested = slices.DeleteFunc(on.nested, func(n nested) bool { return n.number == number })
	}
	s.pieces[number] = waiting(x.Part, x.Order)
}

// cut does the next items of the cutting order of a sheet: n of them, or all if n is below 0.
func (s *Shop) cut(name string, n int) api.Errno {
	x, items, e := s.itemsOf(name)
	if e != api.OK {
		return e
	}
	done := x.done + limited(n, len(items)-x.done)
	st, _, e := cut.Run(x.layout(), items[:done])
	if e != api.OK {
		return e
	}
	x.done = done
	for i, fallen := range st.Fallen {
		// Micro joints hold a piece until the end, where they are broken.
		if fallen || done == len(items) {
			s.takeOff(x.nested[i].number)
		}
	}
	if done == len(items) {
		s.useUp(x)
	}
	return api.OK
}

// takeOff makes a nested piece one that has been cut.
func (s *Shop) takeOff(number int) {
	x := &s.pieces[number]
	switch {
	case x.State != api.Nested: // it has fallen before
	case len(x.drawing.Flanges) == 0:
		x.State = api.Finished
	default:
		x.State = api.Cut
	}
}

// useUp makes what was cut from a sheet a used part of it. A sheet whose list of these is too long leaves the stock.
func (s *Shop) useUp(x *sheet) {
	rest, e := nest.Remnant(x.Sheet, slices.Concat(x.taken()...))
	if e != api.OK {
		s.remove(x.Name)
		return
	}
	*x = sheet{Sheet: rest}
}
