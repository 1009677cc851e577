package shop

import (
	"sheetmetal/api"
	"sheetmetal/cut"
)

// Audit reports whether layouts, items, pieces and orders agree with one another.
func (s *Shop) Audit() bool {
	if s == nil {
		return false
	}
	s.mutex.Lock()
	defer s.mutex.Unlock()
	for i := range s.stock {
		if !s.isSound(&s.stock[i]) {
			return false
		}
	}
	for i, x := range s.pieces {
		if x.State == api.Nested && s.layoutsWith(i) != 1 {
			return false
		}
	}
	for _, o := range s.orders {
		n := s.count(o)
		if n[api.Waiting]+n[api.Nested]+n[api.Cut]+n[api.Finished] != n[0] {
			return false
		}
	}
	return true
}

// isSound reports whether the layout of a sheet is valid, its items are accepted, and its pieces are in a state in which they may be.
func (s *Shop) isSound(x *sheet) bool {
	l := x.layout()
	if cut.Validate(l) != api.OK {
		return false
	}
	items, e := cut.Plan(l)
	if e != api.OK || cut.Check(l, items) != api.OK {
		return false
	}
	for _, n := range x.nested {
		if !s.hasPiece(n.number) || !mayLie(s.pieces[n.number].State, x.phase()) {
			return false
		}
	}
	return true
}

// mayLie reports whether a piece in a state may be in the layout of a sheet in a phase.
func mayLie(state int, p phase) bool {
	switch state {
	case api.Nested:
		return true
	case api.Cut, api.Finished:
		return p == begun
	}
	return false
}

// layoutsWith returns how often a piece is in a layout.
func (s *Shop) layoutsWith(number int) int {
	n := 0
	for _, x := range s.stock {
		for _, y := range x.nested {
			if y.number == number {
				n++
			}
		}
	}
	return n
}
