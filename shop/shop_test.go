package shop_test

import (
	"reflect"
	"slices"
	"sync"
	"testing"

	"sheetmetal/api"
	"sheetmetal/cut"
	"sheetmetal/nest"
	"sheetmetal/shop"
)

// spots returns the spots with the coordinates, X and Y of each in turn.
func spots(l ...int) []api.Spot {
	var result []api.Spot
	for xy := range slices.Chunk(l, 2) {
		result = append(result, api.Spot{X: xy[0], Y: xy[1]})
	}
	return result
}

// machine has a punch that nothing hits, one that reaches over the held side, and one that a flange hits when it is turned up. Over the die n nothing else is bent than the brass of the tables.
func machine() api.Machine {
	return api.Machine{Name: "m",
		Punches: []api.Punch{
			{Name: "slim", Length: 200, Polygons: [][]api.Spot{spots(0, 0, -5, 30, -10, 30)}},
			{Name: "hook", Length: 200, Polygons: [][]api.Spot{spots(0, 0, -50, 15, -50, 16)}},
			{Name: "wide", Length: 200, Polygons: [][]api.Spot{spots(0, 0, 10, 30, -10, 30)}},
		},
		Dies: []api.Die{
			{Name: "d", Width: 8, Length: 200, Polygons: [][]api.Spot{spots(-4, 0, 4, 0, 0, -8)}},
			{Name: "n", Width: 7, Length: 200, Polygons: [][]api.Spot{spots(-4, 0, 4, 0, 0, -8)}},
		},
		Gauge:    spots(0, -5, 0, 5, -9, 5, -9, -5),
		GaugeMax: 200, Stations: 2}
}

// tables has two tables for steel of the gauge 10, of which the second has another deduction and another die, and tables of other kinds.
func tables() []api.BendTable {
	return []api.BendTable{
		{Material: "brass", Gauge: 10, Die: 7, Entries: []api.Entry{{Angle: 90, Num: 3, Den: 1}}},
		{Material: "steel", Gauge: 11, Die: 9, Entries: []api.Entry{{Angle: 90, Num: 3, Den: 1}}},
		{Material: "steel", Gauge: 10, Die: 8, Entries: []api.Entry{{Angle: 90, Num: 7, Den: 2}}},
		{Material: "steel", Gauge: 10, Die: 9, Entries: []api.Entry{{Angle: 90, Num: 5, Den: 2}, {Angle: 180, Num: 1, Den: 2}}},
	}
}

func settings() api.Settings {
	return api.Settings{Gap: 5, Margin: 10}
}

// channel is a part with two flanges, of 73 by 30 units in the flat pattern. The slim punch can bend it, and so can the hook, if the flange is held at the second bend.
func channel() api.Part {
	return api.Part{Name: "u", Material: "steel", Gauge: 10, Width: 40, Height: 30, Flanges: []api.Flange{
		{Name: "a", Side: api.East, Width: 30, Length: 20, Angle: 90},
		{Name: "b", Side: api.West, Width: 30, Length: 20, Angle: 90},
	}}
}

// renamed is the channel with other names of its flanges.
func renamed() api.Part {
	p := channel()
	p.Flanges[0].Name, p.Flanges[1].Name = "c", "d"
	return p
}

// holed is the channel with a hole.
func holed() api.Part {
	p := channel()
	p.Holes = []api.Hole{{Kind: api.CutHole, X: 5, Y: 5, W: 2, H: 3}}
	return p
}

// plate is a part without flanges, of 20 by 20 units.
func plate() api.Part {
	return api.Part{Name: "v", Material: "steel", Gauge: 10, Width: 20, Height: 20}
}

// strip is a part without flanges that is so narrow that it needs a micro joint.
func strip() api.Part {
	return api.Part{Name: "w", Material: "steel", Gauge: 10, Width: 30, Height: 5}
}

// stock returns a sheet of 166 by 41 units, which holds two channels and two plates beside them.
func stock(name string) api.Sheet {
	return api.Sheet{Name: name, Material: "steel", Gauge: 10, Width: 120000, Height: 30000}
}

func drawing(p api.Part) api.Event {
	return api.Event{Kind: api.EvDraw, Part: p}
}

func sheet(x api.Sheet) api.Event {
	return api.Event{Kind: api.EvSheet, Sheet: x}
}

func ordering(name, part string, count int) api.Event {
	return api.Event{Kind: api.EvOrder, Order: name, Name: part, Count: count}
}

func nesting() api.Event {
	return api.Event{Kind: api.EvNest}
}

func cutting(name string, n int) api.Event {
	return api.Event{Kind: api.EvCut, Name: name, N: n}
}

func bending(n, count int) api.Event {
	return api.Event{Kind: api.EvBend, N: n, Count: count}
}

func scrapping(n int) api.Event {
	return api.Event{Kind: api.EvScrap, N: n}
}

func wrong(name string) api.Event {
	return api.Event{Kind: api.EvWrong, Name: name}
}

func broken(name string) api.Event {
	return api.Event{Kind: api.EvBroken, Name: name}
}

// begin returns a shop after events, all of which it does.
func begin(t *testing.T, l ...api.Event) *shop.Shop {
	t.Helper()
	s, e := shop.New(machine(), tables(), settings())
	if e != api.OK || s == nil {
		t.Fatal("New:", e)
	}
	after(t, s, l...)
	return s
}

// after does events without errors.
func after(t *testing.T, s *shop.Shop, l ...api.Event) {
	t.Helper()
	for _, x := range l {
		refuse(t, s, x, api.OK)
	}
}

// refuse does an event for which an error is wanted: with one, nothing may change.
func refuse(t *testing.T, s *shop.Shop, x api.Event, want api.Errno) {
	t.Helper()
	before := lookAt(s)
	if e := s.Do(x); e != want {
		t.Errorf("event of the kind %d: %v, want %v", x.Kind, e, want)
	} else if e != api.OK && !reflect.DeepEqual(before, lookAt(s)) {
		t.Errorf("an event of the kind %d was refused, but it changed the shop", x.Kind)
	}
	if !s.Audit() {
		t.Errorf("Audit fails after an event of the kind %d", x.Kind)
	}
}

// work is what can be seen of a sheet in stock.
type work struct {
	layout   api.Layout
	numbers  []int
	items    []api.Item
	done     int
	programs [2]string
}

// look is what can be seen of a shop.
type look struct {
	pieces    []api.Made
	sheets    []api.Sheet
	works     []work
	drawings  []api.Part
	machine   api.Machine
	sequences [][]api.Step
	counts    [][6]int
}

// lookAt returns what can be seen of a shop whose parts and orders have the names that are used here.
func lookAt(s *shop.Shop) look {
	l := look{pieces: s.Pieces(), sheets: s.Sheets(), machine: s.Machine()}
	for _, x := range l.sheets {
		l.works = append(l.works, workOn(s, x.Name))
	}
	for _, name := range []string{"u", "v", "w", "v1", "v2"} {
		p, _ := s.Drawing(name)
		l.drawings = append(l.drawings, p)
	}
	for i := range l.pieces {
		steps, _, _ := s.Sequence(i)
		l.sequences = append(l.sequences, steps)
	}
	for _, name := range []string{"o", "o0", "o1", "o2", "o3", "o4", "o5", "o6"} {
		n, _ := s.Count(name)
		l.counts = append(l.counts, n)
	}
	return l
}

func workOn(s *shop.Shop, name string) work {
	var w work
	w.layout, w.numbers, _ = s.Layout(name)
	w.items, w.done, _ = s.Items(name)
	w.programs[0], _ = s.CutProgram(name, api.Absolute)
	w.programs[1], _ = s.CutProgram(name, api.Incremental)
	return w
}

// states returns the states of all pieces.
func states(s *shop.Shop) []int {
	var l []int
	for _, x := range s.Pieces() {
		l = append(l, x.State)
	}
	return l
}

func wantStates(t *testing.T, s *shop.Shop, want ...int) {
	t.Helper()
	if got := states(s); !slices.Equal(got, want) {
		t.Errorf("states %v, want %v", got, want)
	}
}

// stockNames returns the names of the sheets in stock.
func stockNames(s *shop.Shop) []string {
	var l []string
	for _, x := range s.Sheets() {
		l = append(l, x.Name)
	}
	return l
}

func TestNew(t *testing.T) {
	badMachine, badTables, badSettings := machine(), tables(), settings()
	badMachine.Stations = 0
	badTables[3].Entries = nil
	badSettings.Gap = -1
	for _, x := range []struct {
		name   string
		m      api.Machine
		tables []api.BendTable
		set    api.Settings
		want   api.Errno
	}{
		{"good", machine(), tables(), settings(), api.OK},
		{"no tables", machine(), nil, settings(), api.OK},
		{"the widest settings", machine(), nil, api.Settings{Gap: api.MaxGap * api.Scale, Margin: api.MaxGap * api.Scale, Common: true}, api.OK},
		{"all is bad", badMachine, badTables, badSettings, api.ErrTool},
		{"a bad table and bad settings", machine(), badTables, badSettings, api.ErrTable},
		{"bad settings", machine(), tables(), badSettings, api.ErrArg},
		{"a margin that is too wide", machine(), tables(), api.Settings{Margin: api.MaxGap*api.Scale + 1}, api.ErrArg},
		{"nothing", api.Machine{}, nil, api.Settings{}, api.ErrTool},
	} {
		s, e := shop.New(x.m, x.tables, x.set)
		if e != x.want || (s == nil) != (x.want != api.OK) {
			t.Error(x.name, s, e)
		}
		if s == nil {
			continue
		}
		if len(s.Pieces()) != 0 || len(s.Sheets()) != 0 || !s.Audit() || !reflect.DeepEqual(s.Machine(), machine()) {
			t.Error(x.name, "is not empty")
		}
	}
}

func TestNewKeepsNothing(t *testing.T) {
	m, l := machine(), tables()
	s, _ := shop.New(m, l, settings())
	m.Punches[0].Polygons[0][0].X, m.Dies[0].Width, m.Gauge[0].Y = -1, 1, -6
	l[2].Entries[0].Num, l[2].Die = 8, 9
	after(t, s, drawing(channel()), sheet(stock("s")), ordering("o", "u", 1), nesting())
	if !reflect.DeepEqual(s.Machine(), machine()) {
		t.Error("the machine changed", s.Machine())
	}
	if got, _, _ := s.Layout("s"); got.Pieces[0].Rects[1].W != 11880 {
		t.Error("the table changed", got)
	}
}

// The events of the kinds that there are not.
func TestOtherKinds(t *testing.T) {
	s := begin(t, drawing(channel()), sheet(stock("s")), ordering("o", "u", 2), nesting(), cutting("s", 1))
	for _, kind := range []int{0, -1, 10, 1 << 40} {
		refuse(t, s, api.Event{Kind: kind, Part: plate(), Sheet: stock("r"), Name: "s", Order: "q", Count: 1}, api.ErrArg)
	}
}

func TestNil(t *testing.T) {
	var s *shop.Shop
	for kind := range 11 {
		if e := s.Do(api.Event{Kind: kind}); e != api.ErrArg {
			t.Error("Do", kind, e)
		}
	}
	if l := s.Pieces(); len(l) != 0 {
		t.Error("Pieces", l)
	}
	if l := s.Sheets(); len(l) != 0 {
		t.Error("Sheets", l)
	}
	if m := s.Machine(); !reflect.DeepEqual(m, api.Machine{}) {
		t.Error("Machine", m)
	}
	if s.Audit() {
		t.Error("Audit")
	}
	if p, e := s.Drawing("u"); !reflect.DeepEqual(p, api.Part{}) || e != api.ErrArg {
		t.Error("Drawing", p, e)
	}
	if l, numbers, e := s.Layout("s"); !reflect.DeepEqual(l, api.Layout{}) || len(numbers) != 0 || e != api.ErrArg {
		t.Error("Layout", l, numbers, e)
	}
	if l, done, e := s.Items("s"); len(l) != 0 || done != 0 || e != api.ErrArg {
		t.Error("Items", l, done, e)
	}
	if text, e := s.CutProgram("s", api.Absolute); text != "" || e != api.ErrArg {
		t.Error("CutProgram", text, e)
	}
	if l, ok, e := s.Sequence(0); len(l) != 0 || ok || e != api.ErrArg {
		t.Error("Sequence", l, ok, e)
	}
	if text, e := s.BendProgram("u"); text != "" || e != api.ErrArg {
		t.Error("BendProgram", text, e)
	}
	if n, e := s.Count("o"); n != [6]int{} || e != api.ErrArg {
		t.Error("Count", n, e)
	}
}

// A shop that New did not make has no machine and no tables.
func TestZeroShop(t *testing.T) {
	var s shop.Shop
	refuse(t, &s, drawing(channel()), api.ErrTable)
	refuse(t, &s, ordering("o", "u", 1), api.ErrNone)
	refuse(t, &s, nesting(), api.OK)
	refuse(t, &s, broken("slim"), api.ErrTool)
	refuse(t, &s, sheet(stock("s")), api.OK)
	refuse(t, &s, cutting("s", -1), api.ErrState)
}

func TestRun(t *testing.T) {
	l := []api.Event{drawing(channel()), sheet(stock("s")), ordering("o", "u", 2), ordering("o", "u", 2), nesting(), cutting("s", -1), {}, bending(1, -1), bending(0, 0)}
	errs, made, e := shop.Run(machine(), tables(), settings(), l)
	want := []api.Errno{api.OK, api.OK, api.OK, api.ErrName, api.OK, api.OK, api.ErrArg, api.OK, api.OK}
	pieces := []api.Made{{Part: "u", Order: "o", State: api.Cut, Sheet: "s"}, {Part: "u", Order: "o", State: api.Finished, Sheet: "s", Bent: 3}}
	if e != api.OK || !slices.Equal(errs, want) || !slices.Equal(made, pieces) {
		t.Error(errs, made, e)
	}
	if errs, made, e := shop.Run(machine(), nil, settings(), nil); e != api.OK || len(errs) != 0 || len(made) != 0 {
		t.Error("no events", errs, made, e)
	}
	many := make([]api.Event, 200)
	if errs, made, e := shop.Run(machine(), nil, settings(), many); e != api.OK || !slices.Equal(errs, slices.Repeat([]api.Errno{api.ErrArg}, 200)) || len(made) != 0 {
		t.Error("200 events", errs, made, e)
	}
	for _, x := range []struct {
		m    api.Machine
		l    []api.Event
		want api.Errno
	}{
		{api.Machine{}, many, api.ErrTool},
		{api.Machine{}, append(many, nesting()), api.ErrLarge},
		{machine(), append(many, nesting()), api.ErrLarge},
	} {
		if errs, made, e := shop.Run(x.m, tables(), settings(), x.l); e != x.want || len(errs) != 0 || len(made) != 0 {
			t.Error(x.want, errs, made, e)
		}
	}
}

// Several goroutines use one shop: each call takes effect at one moment, so of equal orders one is taken, and nothing is lost.
func TestGoroutines(t *testing.T) {
	s := begin(t, drawing(channel()), drawing(plate()), sheet(stock("s")))
	names := []string{"o0", "o1", "o2", "o3", "o4", "o5"}
	const workers = 8
	var taken [workers]int
	var group sync.WaitGroup
	for i := range workers {
		group.Go(func() {
			for j := range names {
				if s.Do(ordering(names[(i+j)%len(names)], "v", 2)) == api.OK {
					taken[i]++
				}
				s.Do(nesting())
				s.Do(cutting("s", 1))
				if !s.Audit() {
					t.Error("Audit fails between events")
				}
				lookAt(s)
			}
		})
	}
	group.Wait()
	sum := 0
	for _, n := range taken {
		sum += n
	}
	if sum != len(names) || len(s.Pieces()) != 2*len(names) || !s.Audit() {
		t.Error(taken, s.Pieces())
	}
}

// nestedHoled are events that nest a channel with a hole on a sheet with a clamp and a used place; the drawing comes first without the hole.
func nestedHoled() []api.Event {
	x := stock("s")
	x.Used, x.Clamps = []api.Rect{{X: 110000, W: 10, H: 10}}, []api.Rect{{X: 115000, W: 10, H: 10}}
	return []api.Event{drawing(channel()), drawing(bracket()), drawing(holed()), sheet(x), ordering("o", "u", 1), nesting()}
}

// A shop keeps nothing of an event.
func TestEventsAreNotKept(t *testing.T) {
	events := nestedHoled()
	s := begin(t, events...)
	for _, x := range events {
		for i := range x.Part.Flanges {
			x.Part.Flanges[i].Length = 1
		}
		for i := range x.Part.Holes {
			x.Part.Holes[i].X = 1
		}
		for i := range x.Sheet.Used {
			x.Sheet.Used[i].X, x.Sheet.Clamps[i].X = 1, 1
		}
	}
	if !reflect.DeepEqual(lookAt(s), lookAt(begin(t, nestedHoled()...))) {
		t.Error("the shop keeps the memory of an event")
	}
}

// What a shop gives out is new memory.
func TestAnswersShareNothing(t *testing.T) {
	s := begin(t, nestedHoled()...)
	sheets := s.Sheets()
	sheets[0].Used[0].X, sheets[0].Clamps[0].X = 2, 2
	p, _ := s.Drawing("u")
	p.Holes[0].X, p.Flanges[0].Name = 2, "y"
	m := s.Machine()
	m.Punches[0].Polygons[0][0].X, m.Dies[0].Polygons[0][0].X, m.Gauge[0].X, m.Punches[1].Name = 2, 2, 2, "y"
	l, numbers, _ := s.Layout("s")
	l.Sheet.Used[0].X, l.Sheet.Clamps[0].X, l.Pieces[0].Rects[0].X, l.Pieces[0].Cuts[0].X, l.Pieces[0].Name, numbers[0] = 2, 2, 2, 2, "y", 2
	items, _, _ := s.Items("s")
	items[0].Piece = 2
	made := s.Pieces()
	made[0].State = api.Scrapped
	if !reflect.DeepEqual(lookAt(s), lookAt(begin(t, nestedHoled()...))) {
		t.Error("the shop gives out its own memory")
	}
}

// The example 1 of the chapter, with the places that the document's flat pattern has.
func TestWholeOrder(t *testing.T) {
	s := begin(t, drawing(channel()), sheet(stock("s")), ordering("o", "u", 2))
	wantStates(t, s, api.Waiting, api.Waiting)
	after(t, s, nesting())
	wantStates(t, s, api.Nested, api.Nested)
	l, numbers, e := s.Layout("s")
	if e != api.OK || !slices.Equal(numbers, []int{0, 1}) || len(l.Pieces) != 2 {
		t.Fatal(l, numbers, e)
	}
	if !slices.Equal(l.Pieces[0].Rects, []api.Rect{{X: 11890, Y: 10, W: 28800, H: 21600}, {X: 40690, Y: 10, W: 11880, H: 21600}, {X: 10, Y: 10, W: 11880, H: 21600}}) {
		t.Error(l.Pieces[0])
	}
	after(t, s, cutting("s", -1))
	wantStates(t, s, api.Cut, api.Cut)
	after(t, s, bending(0, -1), bending(1, -1))
	made := api.Made{Part: "u", Order: "o", State: api.Finished, Sheet: "s", Bent: 3}
	if got := s.Pieces(); !slices.Equal(got, []api.Made{made, made}) {
		t.Error(got)
	}
	if got := s.Sheets(); len(got) != 1 || !slices.Equal(got[0].Used, slices.Concat(l.Pieces[0].Rects, l.Pieces[1].Rects)) {
		t.Error(got)
	}
}

// layoutOf returns the layout that nest finds for parts on a sheet.
func layoutOf(t *testing.T, x api.Sheet, l ...api.Part) api.Layout {
	t.Helper()
	var pieces []api.Piece
	for _, p := range l {
		piece, e := nest.PieceOf(p, tables()[2])
		if e != api.OK {
			t.Fatal(e)
		}
		pieces = append(pieces, piece)
	}
	at, left, e := nest.Nest([]api.Sheet{x}, pieces, settings())
	if e != api.OK || len(left) > 0 {
		t.Fatal(left, e)
	}
	result, e := cut.LayoutOf([]api.Sheet{x}, pieces, settings(), at, 0)
	if e != api.OK {
		t.Fatal(e)
	}
	return result
}
