package shop

import (
	"slices"

	"sheetmetal/api"
	"sheetmetal/brake"
	"sheetmetal/part"
)

// order is an order of pieces of one part.
type order struct {
	name  string
	count int
}

// piece is a piece of an order. Its drawing is the part as it was when the piece was nested last; a waiting piece has none of its own.
type piece struct {
	api.Made
	drawing api.Part
}

// order takes an order of count pieces of a part.
func (s *Shop) order(name, drawing string, count int) api.Errno {
	_, known := s.orderOf(name)
	if !part.ValidName(name) || known {
		return api.ErrName
	}
	if _, found := s.drawingOf(drawing); !found {
		return api.ErrNone
	}
	if count < 1 || count > api.MaxCount {
		return api.ErrArg
	}
	if len(s.orders) >= api.MaxOrders || !s.hasRoom(count) {
		return api.ErrLarge
	}
	s.orders = append(s.orders, order{name: name, count: count})
	for range count {
		s.addWaiting(drawing, name)
	}
	return api.OK
}

// orderOf returns the number of an order, or false if there is none of this name.
func (s *Shop) orderOf(name string) (int, bool) {
	i := slices.IndexFunc(s.orders, func(o order) bool { return o.name == name })
	return i, i >= 0
}

// bend bends a piece by the first steps of its sequence: count of them, or all if count is below 0.
func (s *Shop) bend(number, count int) api.Errno {
	steps, found, e := s.sequence(number)
	if e != api.OK {
		return e
	}
	if !found {
		return api.ErrStep
	}
	x := &s.pieces[number]
	for _, step := range steps[:limited(count, len(steps))] {
		x.Bent |= 1 << step.Flange
	}
	if x.Bent == 1<<len(x.drawing.Flanges)-1 {
		x.State = api.Finished
	}
	return api.OK
}

// sequence returns the sequence of the bends that are left for a piece that is cut, and whether there is one.
func (s *Shop) sequence(number int) ([]api.Step, bool, api.Errno) {
	if !s.hasPiece(number) {
		return nil, false, api.ErrNone
	}
	x := s.pieces[number]
	if x.State != api.Cut {
		return nil, false, api.ErrState
	}
	return s.plan(x.drawing, x.Bent)
}

// spoil scraps a piece that has been cut and is off its sheet.
func (s *Shop) spoil(number int) api.Errno {
	if !s.hasPiece(number) {
		return api.ErrNone
	}
	state := s.pieces[number].State
	if state != api.Cut && state != api.Finished || s.isInProgress(number) {
		return api.ErrState
	}
	return s.scrap([]int{number}, api.EvScrap)
}

// scrap scraps pieces for a reason and adds those that replace them, or returns ErrLarge if there would be too many.
func (s *Shop) scrap(numbers []int, reason int) api.Errno {
	if !s.hasRoom(len(numbers)) {
		return api.ErrLarge
	}
	for _, i := range numbers {
		x := &s.pieces[i]
		x.State, x.Reason = api.Scrapped, reason
		s.addWaiting(x.Part, x.Order)
	}
	return api.OK
}

// breakPunch takes a punch out of the machine.
func (s *Shop) breakPunch(name string) api.Errno {
	m, e := brake.WithoutPunch(s.machine, name)
	if e != api.OK {
		return e
	}
	s.machine = m
	return api.OK
}

// hasRoom reports whether n more pieces can be made.
func (s *Shop) hasRoom(n int) bool {
	return len(s.pieces)+n <= api.MaxMade
}

func (s *Shop) hasPiece(number int) bool {
	return 0 <= number && number < len(s.pieces)
}

// addWaiting adds a waiting piece of a part for an order.
func (s *Shop) addWaiting(drawing, order string) {
	s.pieces = append(s.pieces, waiting(drawing, order))
}

// waiting returns a waiting piece of a part for an order.
func waiting(drawing, order string) piece {
	return piece{Made: api.Made{Part: drawing, Order: order, State: api.Waiting}}
}

// limited returns n, or most if n is below 0 or above it.
func limited(n, most int) int {
	if n < 0 {
		return most
	}
	return min(n, most)
}
