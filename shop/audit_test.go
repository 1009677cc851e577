package shop

import (
	"slices"
	"testing"

	"sheetmetal/api"
)

// plates returns a shop with four plates: two have been cut from the sheet s and two more are nested on it, of which one has fallen if inProgress.
func plates(t *testing.T, inProgress bool) *Shop {
	t.Helper()
	m := api.Machine{Name: "m",
		Punches:  []api.Punch{{Name: "p", Length: 9, Polygons: [][]api.Spot{{{X: 0, Y: 0}, {X: 1, Y: 9}, {X: -1, Y: 9}}}}},
		Dies:     []api.Die{{Name: "d", Width: 8, Length: 9, Polygons: [][]api.Spot{{{X: -1, Y: 0}, {X: 1, Y: 0}, {X: 0, Y: -9}}}}},
		Gauge:    []api.Spot{{X: 0, Y: -5}, {X: 0, Y: 5}, {X: -9, Y: 0}},
		Stations: 1}
	table := api.BendTable{Material: "steel", Gauge: 10, Die: 8, Entries: []api.Entry{{Angle: 90, Den: 1}}}
	s, e := New(m, []api.BendTable{table}, api.Settings{})
	if e != api.OK {
		t.Fatal(e)
	}
	n := 0
	if inProgress {
		n = 1
	}
	for _, x := range []api.Event{
		{Kind: api.EvDraw, Part: api.Part{Name: "v", Material: "steel", Gauge: 10, Width: 20, Height: 20}},
		{Kind: api.EvSheet, Sheet: api.Sheet{Name: "s", Material: "steel", Gauge: 10, Width: 60000, Height: 15000}},
		{Kind: api.EvOrder, Order: "o", Name: "v", Count: 2},
		{Kind: api.EvNest},
		{Kind: api.EvCut, Name: "s", N: -1},
		{Kind: api.EvOrder, Order: "o1", Name: "v", Count: 2},
		{Kind: api.EvNest},
		{Kind: api.EvCut, Name: "s", N: n},
	} {
		if e := s.Do(x); e != api.OK {
			t.Fatal(x.Kind, e)
		}
	}
	var states []int
	for _, x := range s.pieces {
		states = append(states, x.State)
	}
	want := []int{api.Finished, api.Finished, api.Nested, api.Nested}
	if inProgress {
		want[3] = api.Finished
	}
	if !slices.Equal(states, want) || !s.Audit() {
		t.Fatal(s.pieces)
	}
	return s
}

// Audit finds what no events can bring about.
func TestAudit(t *testing.T) {
	for _, x := range []struct {
		name       string
		inProgress bool
		spoil      func(s *Shop)
	}{
		{"a piece is not on the sheet", false, func(s *Shop) { s.stock[0].nested[0].placed.Rects[0].X = 59000 }},
		{"pieces overlap", false, func(s *Shop) { s.stock[0].nested[0] = s.stock[0].nested[1] }},
		{"a piece lies on what is used", false, func(s *Shop) { s.stock[0].nested[0].placed.Rects[0].X = 0 }},
		{"the sheet is not valid", false, func(s *Shop) { s.stock[0].Width = 0 }},
		{"a nested piece is in no layout", false, func(s *Shop) { s.stock[0].nested = s.stock[0].nested[1:] }},
		{"no nested piece is in a layout", false, func(s *Shop) { s.stock[0].nested = nil }},
		{"a nested piece is in no layout, and its sheet is gone", false, func(s *Shop) { s.stock = nil }},
		{"a nested piece is in two layouts", false, func(s *Shop) {
			other := s.stock[0]
			other.nested = []nested{other.nested[0]}
			other.Name = "r"
			s.stock = append(s.stock, other)
		}},
		{"a piece of a layout is waiting", false, func(s *Shop) { s.pieces[2].State = api.Waiting }},
		{"a piece of a layout is scrapped and replaced", false, func(s *Shop) {
			s.pieces[2].State = api.Scrapped
			s.addWaiting("v", "o1")
		}},
		{"a piece is cut, but nothing of its sheet is", false, func(s *Shop) { s.pieces[2].State = api.Cut }},
		{"a piece is finished, but nothing of its sheet is cut", false, func(s *Shop) { s.pieces[2].State = api.Finished }},
		{"there is no such piece", false, func(s *Shop) { s.stock[0].nested[0].number = 4; s.pieces[2].State = api.Waiting }},
		{"a piece of a sheet in progress is waiting", true, func(s *Shop) { s.pieces[3].State = api.Waiting }},
		{"a piece of a sheet in progress is scrapped and replaced", true, func(s *Shop) {
			s.pieces[3].State = api.Scrapped
			s.addWaiting("v", "o1")
		}},
		{"a scrapped piece is not replaced", false, func(s *Shop) { s.pieces[0].State = api.Scrapped }},
		{"a piece too many", false, func(s *Shop) { s.addWaiting("v", "o1") }},
		{"an order without pieces", false, func(s *Shop) { s.orders = append(s.orders, order{name: "o2", count: 1}) }},
		{"more were ordered", false, func(s *Shop) { s.orders[0].count++ }},
	} {
		s := plates(t, x.inProgress)
		x.spoil(s)
		if s.Audit() {
			t.Error("not found:", x.name)
		}
	}
}

// Audit allows what events can bring about.
func TestAuditAllows(t *testing.T) {
	s := plates(t, true)
	for _, state := range []int{api.Nested, api.Cut, api.Finished} {
		s.pieces[3].State = state
		if !s.Audit() {
			t.Error("the state", state, "of a piece of a sheet in progress is refused")
		}
	}
}
