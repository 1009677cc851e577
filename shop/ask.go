package shop

import (
	"sheetmetal/api"
	"sheetmetal/copies"
	"sheetmetal/program"
	"sheetmetal/setup"
)

// Pieces returns all pieces.
func (s *Shop) Pieces() []api.Made {
	if s == nil {
		return nil
	}
	s.mutex.Lock()
	defer s.mutex.Unlock()
	var l []api.Made
	for _, x := range s.pieces {
		l = append(l, x.Made)
	}
	return l
}

// Sheets returns the sheets in stock.
func (s *Shop) Sheets() []api.Sheet {
	if s == nil {
		return nil
	}
	s.mutex.Lock()
	defer s.mutex.Unlock()
	var l []api.Sheet
	for _, x := range s.stock {
		l = append(l, copies.Sheet(x.Sheet))
	}
	return l
}

// Drawing returns the shop's drawing of a part.
func (s *Shop) Drawing(name string) (api.Part, api.Errno) {
	if s == nil {
		return api.Part{}, api.ErrArg
	}
	s.mutex.Lock()
	defer s.mutex.Unlock()
	i, found := s.drawingOf(name)
	if !found {
		return api.Part{}, api.ErrNone
	}
	return copies.Part(s.drawings[i]), api.OK
}

// Machine returns the machine as it is.
func (s *Shop) Machine() api.Machine {
	if s == nil {
		return api.Machine{}
	}
	s.mutex.Lock()
	defer s.mutex.Unlock()
	return copies.Machine(s.machine)
}

// Layout returns the layout of a sheet in stock and the numbers of its pieces.
func (s *Shop) Layout(sheet string) (api.Layout, []int, api.Errno) {
	if s == nil {
		return api.Layout{}, nil, api.ErrArg
	}
	s.mutex.Lock()
	defer s.mutex.Unlock()
	x := s.sheetOf(sheet)
	if x == nil {
		return api.Layout{}, nil, api.ErrNone
	}
	var numbers []int
	for _, n := range x.nested {
		numbers = append(numbers, n.number)
	}
	return copies.Layout(x.layout()), numbers, api.OK
}

// Items returns the cutting order of a sheet and how many of its items are done.
func (s *Shop) Items(sheet string) ([]api.Item, int, api.Errno) {
	if s == nil {
		return nil, 0, api.ErrArg
	}
	s.mutex.Lock()
	defer s.mutex.Unlock()
	x, items, e := s.itemsOf(sheet)
	if e != api.OK {
		return nil, 0, e
	}
	return items, x.done, api.OK
}

// CutProgram returns the program that cuts the layout of a sheet, in a dialect.
func (s *Shop) CutProgram(sheet string, dialect int) (string, api.Errno) {
	if s == nil {
		return "", api.ErrArg
	}
	s.mutex.Lock()
	defer s.mutex.Unlock()
	x, items, e := s.itemsOf(sheet)
	if e != api.OK {
		return "", e
	}
	ops, e := program.CutOps(x.layout(), items)
	if e != api.OK {
		return "", e
	}
	return program.FormatOps(dialect, ops)
}

// Sequence returns the sequence of the bends that are left for a piece that is cut, and whether there is one.
func (s *Shop) Sequence(piece int) ([]api.Step, bool, api.Errno) {
	if s == nil {
		return nil, false, api.ErrArg
	}
	s.mutex.Lock()
	defer s.mutex.Unlock()
	return s.sequence(piece)
}

// BendProgram returns the program that bends a part as the shop's drawing is.
func (s *Shop) BendProgram(part string) (string, api.Errno) {
	if s == nil {
		return "", api.ErrArg
	}
	s.mutex.Lock()
	defer s.mutex.Unlock()
	i, found := s.drawingOf(part)
	if !found {
		return "", api.ErrNone
	}
	ops, e := s.bendOps(s.drawings[i])
	if e != api.OK {
		return "", e
	}
	return program.FormatOps(api.Press, ops)
}

// bendOps returns the operations that bend a part on the machine as it is.
func (s *Shop) bendOps(p api.Part) ([]api.Op, api.Errno) {
	t, e := s.tableOf(p)
	if e != api.OK {
		return nil, e
	}
	steps, found, e := s.plan(p, 0)
	if e != api.OK {
		return nil, e
	}
	if !found {
		return nil, api.ErrStep
	}
	needs, e := setup.Options(p, s.machine, t.Die, steps)
	if e != api.OK {
		return nil, e
	}
	changes, e := setup.Plan(needs, s.machine.Stations)
	if e != api.OK {
		return nil, e
	}
	return program.BendOps(p, s.machine, t.Die, steps, changes)
}

// Count returns how many pieces were ordered by an order, and then how many of its pieces there are in each state.
func (s *Shop) Count(order string) ([6]int, api.Errno) {
	if s == nil {
		return [6]int{}, api.ErrArg
	}
	s.mutex.Lock()
	defer s.mutex.Unlock()
	i, found := s.orderOf(order)
	if !found {
		return [6]int{}, api.ErrNone
	}
	return s.count(s.orders[i]), api.OK
}

// count is Count for an order of the shop.
func (s *Shop) count(o order) [6]int {
	result := [6]int{o.count}
	for _, x := range s.pieces {
		if x.Order == o.name {
			result[x.State]++
		}
	}
	return result
}
