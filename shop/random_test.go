package shop_test

import (
	"math/rand"
	"reflect"
	"slices"
	"strconv"
	"testing"

	"sheetmetal/api"
	"sheetmetal/brake"
	"sheetmetal/cut"
	"sheetmetal/flat"
	"sheetmetal/geom"
	"sheetmetal/nest"
	"sheetmetal/part"
	"sheetmetal/program"
	"sheetmetal/shop"
)

// thing is a piece of a model, with all that has to do with it.
type thing struct {
	api.Made
	drawing  api.Part
	placed   api.Piece
	turn     int // the number of its nesting
	inLayout bool
}

// model follows events as the chapter tells them, in the simplest way. It has no sheets with layouts: these follow from the pieces.
type model struct {
	machine  api.Machine
	set      api.Settings
	drawings map[string]api.Part
	stock    []api.Sheet
	first    map[string]api.Sheet // each sheet that is or was in stock, as it came
	done     map[string]int
	orders   map[string]int
	things   []*thing
	turns    int
}

// on returns the numbers of the pieces in the layout of a sheet, in the order in which they were nested.
func (m *model) on(sheet string) []int {
	var l []int
	for i, x := range m.things {
		if x.inLayout && x.Sheet == sheet {
			l = append(l, i)
		}
	}
	slices.SortFunc(l, func(a, b int) int { return m.things[a].turn - m.things[b].turn })
	return l
}

func (m *model) layout(x api.Sheet) api.Layout {
	l := api.Layout{Sheet: x}
	for _, i := range m.on(x.Name) {
		l.Pieces = append(l.Pieces, m.things[i].placed)
	}
	return l
}

// table returns the first table for a part, or one without a material.
func (m *model) table(p api.Part) api.BendTable {
	for _, t := range tables() {
		if t.Material == p.Material && t.Gauge == p.Gauge {
			return t
		}
	}
	return api.BendTable{}
}

// pick returns the numbers of the pieces for which is holds.
func (m *model) pick(is func(x *thing) bool) []int {
	var l []int
	for i, x := range m.things {
		if is(x) {
			l = append(l, i)
		}
	}
	return l
}

func (m *model) add(name, order string) {
	m.things = append(m.things, &thing{Made: api.Made{Part: name, Order: order, State: api.Waiting}})
}

func (m *model) scrap(l []int, reason int) api.Errno {
	if len(m.things)+len(l) > api.MaxMade {
		return api.ErrLarge
	}
	for _, i := range l {
		x := m.things[i]
		x.State, x.Reason, x.inLayout = api.Scrapped, reason, false
		m.add(x.Part, x.Order)
	}
	return api.OK
}

func (m *model) do(e api.Event) api.Errno {
	switch e.Kind {
	case api.EvDraw:
		return m.draw(e.Part)
	case api.EvSheet:
		return m.receive(e.Sheet)
	case api.EvOrder:
		return m.order(e)
	case api.EvNest:
		m.nest()
		return api.OK
	case api.EvCut:
		return m.cut(e)
	case api.EvBend:
		return m.bend(e)
	case api.EvScrap:
		if e.N < 0 || e.N >= len(m.things) {
			return api.ErrNone
		}
		if x := m.things[e.N]; x.State != api.Cut && x.State != api.Finished || x.inLayout {
			return api.ErrState
		}
		return m.scrap([]int{e.N}, api.EvScrap)
	case api.EvWrong:
		if _, known := m.first[e.Name]; !known {
			return api.ErrNone
		}
		err := m.scrap(m.pick(func(x *thing) bool { return x.Sheet == e.Name && x.State != api.Scrapped }), api.EvWrong)
		if err == api.OK {
			m.remove(e.Name)
		}
		return err
	case api.EvBroken:
		without, err := brake.WithoutPunch(m.machine, e.Name)
		if err == api.OK {
			m.machine = without
		}
		return err
	}
	return api.ErrArg
}

func (m *model) remove(name string) {
	m.stock = slices.DeleteFunc(m.stock, func(x api.Sheet) bool { return x.Name == name })
}

func (m *model) draw(p api.Part) api.Errno {
	t := m.table(p)
	if e := part.Validate(p); e != api.OK {
		return e
	}
	if t.Material == "" {
		return api.ErrTable
	}
	if _, e := flat.Unfold(p, t); e != api.OK {
		return e
	}
	if _, found, _ := brake.Plan(p, m.machine, t.Die, 0); !found {
		return api.ErrStep
	}
	old, known := m.drawings[p.Name]
	if !known && len(m.drawings) == api.MaxParts {
		return api.ErrLarge
	}
	if change, _ := part.Changed(old, p); known && (change.Outline || change.Holes) {
		if len(m.pick(func(x *thing) bool {
			return x.Part == p.Name && x.inLayout && m.done[x.Sheet] > 0 && x.State != api.Finished
		})) > 0 {
			return api.ErrState
		}
		nested := m.pick(func(x *thing) bool { return x.Part == p.Name && x.State == api.Nested })
		if e := m.scrap(m.pick(func(x *thing) bool { return x.Part == p.Name && x.State == api.Cut }), api.EvDraw); e != api.OK {
			return e
		}
		for _, i := range nested {
			x := m.things[i]
			x.State, x.Sheet, x.inLayout = api.Waiting, "", false
		}
	}
	m.drawings[p.Name] = p
	return api.OK
}

func (m *model) receive(x api.Sheet) api.Errno {
	if e := nest.ValidateSheet(x); e != api.OK {
		return e
	}
	if _, known := m.first[x.Name]; known {
		return api.ErrName
	}
	if len(m.stock) == api.MaxSheets {
		return api.ErrLarge
	}
	m.stock, m.first[x.Name] = append(m.stock, x), x
	return api.OK
}

func (m *model) order(e api.Event) api.Errno {
	if _, known := m.orders[e.Order]; known || !part.ValidName(e.Order) {
		return api.ErrName
	}
	if _, known := m.drawings[e.Name]; !known {
		return api.ErrNone
	}
	if e.Count < 1 || e.Count > api.MaxCount {
		return api.ErrArg
	}
	if len(m.orders) == api.MaxOrders || len(m.things)+e.Count > api.MaxMade {
		return api.ErrLarge
	}
	m.orders[e.Order] = e.Count
	for range e.Count {
		m.add(e.Name, e.Order)
	}
	return api.OK
}

func (m *model) nest() {
	for _, i := range m.pick(func(x *thing) bool { return x.State == api.Waiting }) {
		x := m.things[i]
		p := m.drawings[x.Part]
		piece, e := nest.PieceOf(p, m.table(p))
		for _, s := range m.stock {
			var taken [][]api.Rect
			for _, j := range m.on(s.Name) {
				taken = append(taken, m.things[j].placed.Rects)
			}
			if e != api.OK || m.done[s.Name] > 0 || len(taken) == api.MaxPieces {
				continue
			}
			at, found, e := nest.Fit(s, taken, piece, m.set)
			if !found || e != api.OK {
				continue
			}
			x.placed, _ = nest.Put(piece, at)
			m.turns++
			x.State, x.Sheet, x.drawing, x.turn, x.inLayout = api.Nested, s.Name, p, m.turns, true
			break
		}
	}
}

func (m *model) cut(e api.Event) api.Errno {
	i := slices.IndexFunc(m.stock, func(x api.Sheet) bool { return x.Name == e.Name })
	if i < 0 {
		return api.ErrNone
	}
	l, numbers := m.layout(m.stock[i]), m.on(e.Name)
	if len(numbers) == 0 {
		return api.ErrState
	}
	items, _ := cut.Plan(l)
	falls, _ := cut.Falls(l, items)
	for n := 0; n != e.N && m.done[e.Name] < len(items); n++ {
		for _, k := range falls[m.done[e.Name]] {
			m.takeOff(m.things[numbers[k]])
		}
		m.done[e.Name]++
	}
	if m.done[e.Name] < len(items) {
		return api.OK
	}
	m.done[e.Name] = 0
	for _, k := range numbers {
		m.takeOff(m.things[k])
		m.things[k].inLayout = false
		m.stock[i].Used = slices.Concat(m.stock[i].Used, m.things[k].placed.Rects)
	}
	if len(m.stock[i].Used) > api.MaxRects {
		m.remove(e.Name)
	}
	return api.OK
}

func (m *model) takeOff(x *thing) {
	if x.State == api.Nested {
		x.State = api.Cut
		if len(x.drawing.Flanges) == 0 {
			x.State = api.Finished
		}
	}
}

func (m *model) bend(e api.Event) api.Errno {
	if e.N < 0 || e.N >= len(m.things) {
		return api.ErrNone
	}
	x := m.things[e.N]
	if x.State != api.Cut {
		return api.ErrState
	}
	steps, found, _ := brake.Plan(x.drawing, m.machine, m.table(x.drawing).Die, x.Bent)
	if !found {
		return api.ErrStep
	}
	for n, step := range steps {
		if n == e.Count {
			return api.OK
		}
		x.Bent |= 1 << step.Flange
	}
	x.State = api.Finished
	return api.OK
}

// bracket is a part with a flange at a flange, of which the second one is bent down.
func bracket() api.Part {
	return api.Part{Name: "v1", Material: "steel", Gauge: 10, Grain: api.GrainX, Width: 30, Height: 20, Flanges: []api.Flange{
		{Name: "a", Side: api.North, Offset: 5, Width: 20, Length: 20, Angle: 90},
		{Name: "b", Parent: 1, Side: api.North, Width: 20, Length: 12, Angle: -90},
		{Name: "c", Side: api.South, Width: 30, Length: 10, Angle: 90},
	}, Holes: []api.Hole{{Kind: api.CutHole, X: 2, Y: 2, W: 3, H: 3}, {Face: 1, Kind: api.FormHole, X: 2, Y: 5, W: 3, H: 3}}}
}

// randomPart returns one of a few parts, some of which can't be drawn.
func randomPart(r *rand.Rand) api.Part {
	l := []api.Part{channel(), renamed(), holed(), plate(), strip(), bracket(), channel(), plate()}
	p := l[r.Intn(len(l))]
	switch r.Intn(16) {
	case 0:
		p.Width++
	case 1:
		p.Material = "brass"
	case 2:
		p.Gauge = 11 + r.Intn(2)
	case 3:
		p.Name = []string{"v2", "v1", "U"}[r.Intn(3)]
	case 4:
		p.Flanges = nil
	case 5:
		p.Flanges = append(slices.Clone(p.Flanges), api.Flange{Name: "f", Side: api.North, Width: 10, Length: []int{3, 15}[r.Intn(2)], Angle: 90})
	}
	return p
}

func randomSheet(r *rand.Rand) api.Sheet {
	x := stock("s" + strconv.Itoa(r.Intn(12)))
	x.Width, x.Height = 15000+r.Intn(150000), 15000+r.Intn(60000)
	switch r.Intn(6) {
	case 0:
		x.Material = "brass"
	case 1:
		x.Grain = 1 + r.Intn(2)
	case 2:
		x.Clamps = []api.Rect{{W: 500, H: 500}, {X: 14000, Y: r.Intn(14000), W: 900, H: 900}}
	case 3:
		for i := range r.Intn(api.MaxRects + 2) {
			x.Used = append(x.Used, api.Rect{X: 10 * i, Y: 14000, W: 10, H: 500})
		}
	}
	return x
}

// randomEvent returns an event that suits a shop more often than not.
func randomEvent(r *rand.Rand, m *model) api.Event {
	sheetName := "s" + strconv.Itoa(r.Intn(12))
	if len(m.stock) > 0 && r.Intn(8) > 0 {
		sheetName = m.stock[r.Intn(len(m.stock))].Name
	}
	piece := r.Intn(len(m.things)+3) - 1
	switch n := r.Intn(40); {
	case n < 5:
		return drawing(randomPart(r))
	case n < 9:
		return sheet(randomSheet(r))
	case n < 13:
		return ordering("o"+strconv.Itoa(r.Intn(7)), []string{"u", "v", "w", "v1", "v2"}[r.Intn(5)], r.Intn(6))
	case n < 20:
		return nesting()
	case n < 27:
		return cutting(sheetName, r.Intn(5)-1)
	case n < 34:
		return bending(piece, r.Intn(5)-1)
	case n < 36:
		return scrapping(piece)
	case n < 37:
		return wrong(sheetName)
	case n < 38 && r.Intn(4) == 0:
		return broken([]string{"slim", "hook", "wide", "z"}[r.Intn(4)])
	case n == 39 && r.Intn(8) == 0:
		return api.Event{Kind: r.Intn(30) - 10}
	}
	return nesting()
}

// compare holds a shop against the model.
func compare(t *testing.T, s *shop.Shop, m *model) {
	t.Helper()
	var made []api.Made
	for _, x := range m.things {
		made = append(made, x.Made)
	}
	if got := s.Pieces(); !slices.Equal(got, made) {
		t.Error("pieces", got, made)
	}
	if got := s.Sheets(); len(got) != len(m.stock) || len(got) > 0 && !reflect.DeepEqual(got, m.stock) {
		t.Error("sheets", got, m.stock)
	}
	if !reflect.DeepEqual(s.Machine(), m.machine) {
		t.Error("machine", s.Machine())
	}
	for _, p := range m.drawings {
		wantDrawing(t, s, p)
	}
	for name, n := range m.orders {
		want := [6]int{n}
		for _, x := range m.things {
			if x.Order == name {
				want[x.State]++
			}
		}
		if got, e := s.Count(name); e != api.OK || got != want || n != want[1]+want[2]+want[3]+want[4] {
			t.Error("count", name, got, want)
		}
	}
	for _, x := range m.stock {
		compareSheet(t, s, m, x)
	}
	if !s.Audit() {
		t.Error("Audit fails")
	}
}

func compareSheet(t *testing.T, s *shop.Shop, m *model, x api.Sheet) {
	t.Helper()
	l, numbers, e := s.Layout(x.Name)
	want := m.layout(x)
	if e != api.OK || !slices.Equal(numbers, m.on(x.Name)) || !reflect.DeepEqual(l, want) {
		t.Error("layout", l, numbers, want, m.on(x.Name))
	}
	items, done, e := s.Items(x.Name)
	wantItems, _ := cut.Plan(want)
	if (e == api.ErrState) != (len(numbers) == 0) || done != m.done[x.Name] || !slices.Equal(items, wantItems) {
		t.Error("items", items, done, e)
	}
	if len(numbers) > 0 {
		text, e := s.CutProgram(x.Name, api.Incremental)
		ops, e2 := program.ParseOps(api.Incremental, text)
		if ok, e3 := program.CheckCut(l, ops); !ok || e != api.OK || e2 != api.OK || e3 != api.OK {
			t.Error("the program does not make the layout", text)
		}
	}
	// No area is used twice: what is used is the sum of what was used at first and what has been cut since.
	area, _ := geom.Area(m.first[x.Name].Used)
	for _, y := range m.things {
		if y.Sheet == x.Name && !y.inLayout {
			n, _ := geom.Area(y.placed.Rects)
			area += n
		}
	}
	if got, e := geom.Area(x.Used); e != api.OK || got != area {
		t.Error("area", got, area)
	}
}

// Random events have the errors and the effects that the model has, and each kind of event is refused and done.
func TestRandomEvents(t *testing.T) {
	results := map[[2]int]int{}
	for seed := range int64(80) {
		r := rand.New(rand.NewSource(seed))
		set := api.Settings{Gap: []int{0, 5, 720}[r.Intn(3)], Margin: []int{0, 10}[r.Intn(2)], Common: r.Intn(2) == 0}
		s, e := shop.New(machine(), tables(), set)
		if e != api.OK {
			t.Fatal(e)
		}
		m := &model{machine: machine(), set: set, drawings: map[string]api.Part{}, first: map[string]api.Sheet{}, done: map[string]int{}, orders: map[string]int{}}
		var events []api.Event
		var errs []api.Errno
		for range 200 {
			x := randomEvent(r, m)
			want := m.do(x)
			if got := s.Do(x); got != want {
				t.Errorf("seed %d, event of the kind %d: %v, want %v", seed, x.Kind, got, want)
			}
			results[[2]int{x.Kind, int(want)}]++
			events, errs = append(events, x), append(errs, want)
			compare(t, s, m)
			if t.Failed() {
				t.Fatal("seed", seed, "after", len(events), "events")
			}
		}
		gotErrs, made, e := shop.Run(machine(), tables(), set, events)
		if e != api.OK || !slices.Equal(gotErrs, errs) || !slices.Equal(made, s.Pieces()) {
			t.Fatal("seed", seed, "Run is not the same as its events one by one")
		}
	}
	for kind, l := range map[int][]api.Errno{
		api.EvDraw:   {api.OK, api.ErrName, api.ErrTable, api.ErrShort, api.ErrStep, api.ErrLarge, api.ErrState},
		api.EvSheet:  {api.OK, api.ErrLarge, api.ErrName},
		api.EvOrder:  {api.OK, api.ErrName, api.ErrNone, api.ErrArg, api.ErrLarge},
		api.EvNest:   {api.OK},
		api.EvCut:    {api.OK, api.ErrNone, api.ErrState},
		api.EvBend:   {api.OK, api.ErrNone, api.ErrState, api.ErrStep},
		api.EvScrap:  {api.OK, api.ErrNone, api.ErrState},
		api.EvWrong:  {api.OK, api.ErrNone},
		api.EvBroken: {api.OK, api.ErrNone},
	} {
		for _, e := range l {
			if results[[2]int{kind, int(e)}] == 0 {
				t.Errorf("no event of the kind %d had the result %v", kind, e)
			}
		}
	}
}
