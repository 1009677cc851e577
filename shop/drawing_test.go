package shop_test

import (
	"reflect"
	"slices"
	"strconv"
	"testing"

	"sheetmetal/api"
	"sheetmetal/part"
	"sheetmetal/shop"
)

// wantDrawing checks the shop's drawing of a part.
func wantDrawing(t *testing.T, s *shop.Shop, want api.Part) {
	t.Helper()
	if got, e := s.Drawing(want.Name); e != api.OK || !part.Equal(got, want) {
		t.Error("drawing", got, e)
	}
}

// changedPart returns a copy of the channel after a change.
func changedPart(change func(p *api.Part)) api.Part {
	p := channel()
	change(&p)
	return p
}

func TestDrawErrors(t *testing.T) {
	s := begin(t, drawing(channel()))
	for _, x := range []struct {
		name   string
		change func(p *api.Part)
		want   api.Errno
	}{
		{"a bad name and no table", func(p *api.Part) { p.Name, p.Material = "", "zinc" }, api.ErrName},
		{"a bad width and no table", func(p *api.Part) { p.Width, p.Material = 0, "zinc" }, api.ErrArg},
		{"another material and a flange that is too short", func(p *api.Part) { p.Material, p.Flanges[0].Length = "zinc", 3 }, api.ErrTable},
		{"another gauge", func(p *api.Part) { p.Gauge = 12 }, api.ErrTable},
		{"an angle that the first of its tables has not", func(p *api.Part) { p.Flanges[0].Angle = 180 }, api.ErrNone},
		{"a short flange that can't be bent", func(p *api.Part) { p.Gauge, p.Flanges[0].Length = 11, 3 }, api.ErrShort},
		{"no die for its table", func(p *api.Part) { p.Gauge = 11 }, api.ErrStep},
	} {
		refuse(t, s, drawing(changedPart(x.change)), x.want)
	}
	wantDrawing(t, s, channel())
}

// Drawings are counted by their names; a part that can't be bent is refused even where there are too many.
func TestDrawTooMany(t *testing.T) {
	s := begin(t)
	var l []api.Part
	for _, name := range []string{"u", "v", "w", "v1", "v2"} {
		p := channel()
		p.Name = name
		l = append(l, p)
	}
	for _, p := range l[:api.MaxParts] {
		after(t, s, drawing(p))
	}
	refuse(t, s, drawing(l[4]), api.ErrLarge)
	bad := l[4]
	bad.Gauge = 11
	refuse(t, s, drawing(bad), api.ErrStep)
	wider := l[2]
	wider.Width = 45
	after(t, s, drawing(wider))
	wantDrawing(t, s, wider)
	wantDrawing(t, s, l[3])
	if _, e := s.Drawing("v2"); e != api.ErrNone {
		t.Error(e)
	}
}

// The machine as it is decides whether a part can be made, also for a drawing that does not change.
func TestDrawAfterBreak(t *testing.T) {
	s := begin(t, drawing(channel()), broken("slim"), drawing(renamed()), broken("hook"))
	refuse(t, s, drawing(renamed()), api.ErrStep)
	refuse(t, s, drawing(channel()), api.ErrStep)
	flat := channel()
	flat.Flanges = nil
	after(t, s, drawing(plate()), drawing(flat))
}

// A drawing in which nothing but names changes leaves all as it is, also while a sheet is in progress.
func TestDrawNamesOnly(t *testing.T) {
	events := []api.Event{drawing(channel()), sheet(stock("s")), ordering("o", "u", 4), nesting(), cutting("s", -1), bending(0, -1), bending(1, 1),
		sheet(stock("r")), nesting(), cutting("r", 1), ordering("o1", "u", 3), sheet(stock("q")), nesting()}
	s := begin(t)
	for _, x := range events {
		after(t, s, x)
		before := lookAt(s)
		p := channel()
		if before.drawings[0].Flanges != nil && before.drawings[0].Flanges[0].Name == "a" {
			p = renamed()
		}
		after(t, s, drawing(p))
		wantDrawing(t, s, p)
		now := lookAt(s)
		now.drawings = before.drawings
		if !reflect.DeepEqual(before, now) {
			t.Errorf("a name changed something after an event of the kind %d", x.Kind)
		}
	}
	wantStates(t, s, api.Finished, api.Cut, api.Nested, api.Cut, api.Nested, api.Nested, api.Waiting)
}

// A drawing that changes takes nested pieces from their places and scraps those that are cut, in their order; finished pieces and other parts stay.
func TestDrawChanges(t *testing.T) {
	for _, x := range []struct {
		name   string
		change func(p *api.Part)
	}{
		{"a hole", func(p *api.Part) { p.Holes = holed().Holes }},
		{"a form", func(p *api.Part) { p.Holes = []api.Hole{{Kind: api.FormHole, X: 5, Y: 5, W: 2, H: 3}} }},
		{"the width", func(p *api.Part) { p.Width = 39 }},
		{"the height and the flanges", func(p *api.Part) { p.Height, p.Flanges[0].Width, p.Flanges[1].Width = 29, 29, 29 }},
		{"the grain", func(p *api.Part) { p.Grain = api.GrainX }},
		{"the material", func(p *api.Part) { p.Material = "brass" }},
		{"an angle", func(p *api.Part) { p.Flanges[1].Angle = -90 }},
		{"a length", func(p *api.Part) { p.Flanges[1].Length = 19 }},
		{"no flanges", func(p *api.Part) { p.Flanges = nil }},
	} {
		s := begin(t, drawing(channel()), drawing(plate()), sheet(stock("s")), ordering("o", "u", 4), nesting(), cutting("s", -1), bending(1, -1),
			ordering("o1", "v", 2), sheet(stock("r")), nesting())
		wantStates(t, s, api.Cut, api.Finished, api.Nested, api.Nested, api.Nested, api.Nested)
		p := channel()
		x.change(&p)
		after(t, s, bending(0, 1), drawing(p))
		wantDrawing(t, s, p)
		bent := s.Pieces()[0].Bent
		want := []api.Made{
			{Part: "u", Order: "o", State: api.Scrapped, Sheet: "s", Bent: bent, Reason: api.EvDraw},
			{Part: "u", Order: "o", State: api.Finished, Sheet: "s", Bent: 3},
			{Part: "u", Order: "o", State: api.Waiting},
			{Part: "u", Order: "o", State: api.Waiting},
			{Part: "v", Order: "o1", State: api.Nested, Sheet: "s"},
			{Part: "v", Order: "o1", State: api.Nested, Sheet: "s"},
			{Part: "u", Order: "o", State: api.Waiting},
		}
		if got := s.Pieces(); !slices.Equal(got, want) || bent == 0 {
			t.Error(x.name, got)
		}
		if l, numbers, e := s.Layout("s"); e != api.OK || !slices.Equal(numbers, []int{4, 5}) || len(l.Pieces) != 2 {
			t.Error(x.name, l, numbers, e)
		}
		if l, numbers, e := s.Layout("r"); e != api.OK || len(numbers) != 0 || len(l.Pieces) != 0 {
			t.Error(x.name, l, numbers, e)
		}
	}
}

// A drawing that changes leaves the work on sheets without its part, and the programs of other parts, as they are; a hole leaves also the program of its own part.
func TestDrawLeavesOthers(t *testing.T) {
	short := stock("s")
	short.Width = 66300
	s := begin(t, drawing(channel()), drawing(plate()), drawing(bracket()), sheet(short), ordering("o", "v", 2), ordering("o1", "v1", 1), nesting(),
		sheet(stock("r")), ordering("o2", "u", 2), nesting())
	if l := s.Pieces(); l[0].Sheet != "s" || l[2].Sheet != "s" || l[3].Sheet != "r" || l[4].Sheet != "r" {
		t.Fatal(l)
	}
	other := workOn(s, "s")
	own, _ := s.BendProgram("u")
	bent, _ := s.BendProgram("v1")
	after(t, s, drawing(holed()))
	if got, e := s.BendProgram("u"); e != api.OK || got != own || own == "" {
		t.Error("a hole changed the program for bending", got, e)
	}
	one := holed()
	one.Flanges = one.Flanges[:1]
	after(t, s, drawing(one))
	if got, e := s.BendProgram("u"); e != api.OK || got == own {
		t.Error("the program for bending is not the new one", got, e)
	}
	if got, e := s.BendProgram("v1"); e != api.OK || got != bent || bent == "" || !reflect.DeepEqual(workOn(s, "s"), other) {
		t.Error("something else changed", got, e)
	}
}

// After the change pieces are nested by the new drawing, behind those that kept their places.
func TestNestAfterDraw(t *testing.T) {
	wide := stock("s")
	wide.Width = 200000
	s := begin(t, drawing(channel()), drawing(plate()), sheet(wide), ordering("o", "u", 2), ordering("o1", "v", 1), nesting())
	before, _, _ := s.Layout("s")
	after(t, s, drawing(holed()), nesting())
	l, numbers, e := s.Layout("s")
	if e != api.OK || !slices.Equal(numbers, []int{2, 0, 1}) || len(l.Pieces) != 3 {
		t.Fatal(l, numbers, e)
	}
	if !reflect.DeepEqual(l.Pieces[0], before.Pieces[2]) || !slices.Equal(l.Pieces[1].Rects, before.Pieces[0].Rects) || !slices.Equal(l.Pieces[2].Rects, before.Pieces[1].Rects) {
		t.Error("the places changed", l)
	}
	if len(l.Pieces[1].Cuts) != 1 || len(l.Pieces[2].Cuts) != 1 {
		t.Error("the drawing is not the new one", l)
	}
}

// While a piece that is not finished is in the layout of a sheet in progress, the drawing of its part can't change.
func TestDrawInProgress(t *testing.T) {
	s := begin(t, drawing(channel()), drawing(plate()), sheet(stock("s")), ordering("o", "u", 2), nesting(), cutting("s", 1))
	refuse(t, s, drawing(holed()), api.ErrState)
	cutFirst := slices.Index(states(s), api.Cut)
	after(t, s, bending(cutFirst, -1))
	refuse(t, s, drawing(holed()), api.ErrState)
	after(t, s, drawing(renamed()))
	bigger := plate()
	bigger.Width = 21
	after(t, s, drawing(bigger), cutting("s", -1))
	after(t, s, drawing(holed()))
	want := []int{api.Scrapped, api.Scrapped, api.Waiting}
	want[cutFirst] = api.Finished
	wantStates(t, s, want...)
}

// A piece that is finished while its sheet is in progress stays in the layout when the drawing changes.
func TestDrawWhenFinishedInProgress(t *testing.T) {
	s := begin(t, drawing(channel()), drawing(plate()), sheet(stock("s")), ordering("o", "u", 1), ordering("o1", "v", 1), nesting(), cutting("s", 1))
	if !slices.Equal(states(s), []int{api.Nested, api.Finished}) {
		t.Fatal("the plate does not fall first", s.Pieces())
	}
	before := workOn(s, "s")
	bigger := plate()
	bigger.Width = 21
	after(t, s, drawing(bigger))
	if !reflect.DeepEqual(before, workOn(s, "s")) {
		t.Error("the work on the sheet changed")
	}
	wantStates(t, s, api.Nested, api.Finished)
	after(t, s, cutting("s", -1))
	wantStates(t, s, api.Cut, api.Finished)
	if used := s.Sheets()[0].Used; len(used) != 4 || used[3].W*used[3].H != 20*20*api.Scale*api.Scale {
		t.Error(used)
	}
}

// filled returns a shop with n pieces: four channels that were cut from the sheets s and r, and plates of four orders, of which some are waiting and the others were scrapped.
func filled(t *testing.T, n int) *shop.Shop {
	t.Helper()
	narrow, other := stock("s"), stock("r")
	narrow.Width, other.Width = 110000, 110000
	s := begin(t, drawing(channel()), drawing(plate()), sheet(narrow), sheet(other), ordering("o", "u", 4), nesting(), cutting("s", -1), cutting("r", -1))
	for _, name := range []string{"o1", "o2", "o3", "o4"} {
		after(t, s, ordering(name, "v", 4))
	}
	for i := range n - len(s.Pieces()) {
		small := stock("x" + strconv.Itoa(i))
		small.Width, small.Height = 14420, 14420
		after(t, s, sheet(small), nesting(), wrong(small.Name))
	}
	if len(s.Pieces()) != n || !slices.Equal(states(s)[:4], []int{api.Cut, api.Cut, api.Cut, api.Cut}) {
		t.Fatal(s.Pieces())
	}
	return s
}

// No event makes more pieces than there may be.
func TestMostPieces(t *testing.T) {
	for _, x := range []struct {
		name  string
		event api.Event
		more  int
	}{
		{"a changed drawing", drawing(holed()), 4},
		{"an order", ordering("o5", "v", 3), 3},
		{"a spoilt piece", scrapping(2), 1},
		{"a wrong sheet", wrong("r"), 2},
	} {
		s := filled(t, api.MaxMade-x.more)
		after(t, s, x.event)
		if len(s.Pieces()) != api.MaxMade {
			t.Error(x.name, len(s.Pieces()))
		}
		s = filled(t, api.MaxMade-x.more+1)
		refuse(t, s, x.event, api.ErrLarge)
	}
	s := filled(t, api.MaxMade)
	for _, x := range []api.Event{drawing(holed()), ordering("o5", "v", 1), scrapping(2), wrong("r")} {
		refuse(t, s, x, api.ErrLarge)
	}
	refuse(t, s, scrapping(5), api.ErrState)
	refuse(t, s, ordering("o5", "v", 5), api.ErrArg)
	after(t, s, wrong("x0"), drawing(renamed()), bending(0, -1))
	// A change that scraps nothing needs no room.
	bigger := plate()
	bigger.Width = 21
	after(t, s, sheet(stock("q")), nesting(), drawing(bigger))
	refuse(t, s, drawing(holed()), api.ErrLarge)
	after(t, s, bending(1, -1), bending(2, -1), bending(3, -1), drawing(holed()))
}

// The state of a sheet is looked at before the number of pieces.
func TestMostPiecesInProgress(t *testing.T) {
	s := filled(t, api.MaxMade-4)
	after(t, s, ordering("o5", "u", 4), sheet(stock("q")))
	// Waiting plates would take the places first.
	brass := plate()
	brass.Material = "brass"
	after(t, s, drawing(brass), nesting(), cutting("q", 1))
	refuse(t, s, drawing(holed()), api.ErrState)
	after(t, s, cutting("q", -1))
	refuse(t, s, drawing(holed()), api.ErrLarge)
}
