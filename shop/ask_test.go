package shop_test

import (
	"reflect"
	"slices"
	"testing"

	"sheetmetal/api"
	"sheetmetal/brake"
	"sheetmetal/cut"
	"sheetmetal/program"
	"sheetmetal/setup"
	"sheetmetal/shop"
)

// The questions for things that there are not.
func TestUnknown(t *testing.T) {
	s := begin(t, drawing(channel()), sheet(stock("s")), sheet(stock("gone")), ordering("o", "u", 1), wrong("gone"))
	for _, name := range []string{"", "z", "gone", "o", "m"} {
		if p, e := s.Drawing(name); e != api.ErrNone || !reflect.DeepEqual(p, api.Part{}) {
			t.Error("Drawing", name, p, e)
		}
		if l, numbers, e := s.Layout(name); e != api.ErrNone || len(numbers) != 0 || !reflect.DeepEqual(l, api.Layout{}) {
			t.Error("Layout", name, l, e)
		}
		if l, done, e := s.Items(name); e != api.ErrNone || len(l) != 0 || done != 0 {
			t.Error("Items", name, l, done, e)
		}
		for _, dialect := range []int{api.Absolute, api.Press, 0} {
			if text, e := s.CutProgram(name, dialect); e != api.ErrNone || text != "" {
				t.Error("CutProgram", name, text, e)
			}
		}
		if text, e := s.BendProgram(name); e != api.ErrNone || text != "" {
			t.Error("BendProgram", name, text, e)
		}
	}
	if l, done, e := s.Items("s"); e != api.ErrState || len(l) != 0 || done != 0 {
		t.Error("Items", l, done, e)
	}
	for _, dialect := range []int{api.Absolute, api.Press, 0} {
		if text, e := s.CutProgram("s", dialect); e != api.ErrState || text != "" {
			t.Error("CutProgram", text, e)
		}
	}
	if l, numbers, e := s.Layout("s"); e != api.OK || len(numbers) != 0 || !reflect.DeepEqual(l, api.Layout{Sheet: stock("s")}) {
		t.Error("Layout", l, numbers, e)
	}
}

// The sheet of a piece is named from its nesting on; of a scrapped one it stays.
func TestSheetOfPiece(t *testing.T) {
	s := begin(t, drawing(channel()), sheet(stock("s")), ordering("o", "u", 1))
	for _, x := range []struct {
		event api.Event
		want  string
	}{
		{nesting(), "s"},
		{drawing(holed()), ""},
		{nesting(), "s"},
		{cutting("s", -1), "s"},
		{bending(0, -1), "s"},
		{scrapping(0), "s"},
	} {
		after(t, s, x.event)
		if got := s.Pieces()[0].Sheet; got != x.want {
			t.Errorf("after an event of the kind %d: %q", x.event.Kind, got)
		}
	}
	if got := s.Pieces()[1].Sheet; got != "" {
		t.Error(got)
	}
}

// The cutting order is that of the layout, and stays as it is while it is done; so does the program.
func TestItemsAndPrograms(t *testing.T) {
	s := begin(t, mixed()...)
	for done := range 6 {
		l, _, _ := s.Layout("s")
		want, _ := cut.Plan(l)
		items, n, e := s.Items("s")
		if e != api.OK || n != done || len(items) != 6 || !slices.Equal(items, want) {
			t.Error(items, n, e)
		}
		ops, e := program.CutOps(l, items)
		if e != api.OK {
			t.Fatal(e)
		}
		for _, dialect := range []int{api.Absolute, api.Incremental} {
			text, e := s.CutProgram("s", dialect)
			if want, _ := program.FormatOps(dialect, ops); e != api.OK || text != want || text == "" {
				t.Error(dialect, text, e)
			}
			read, e := program.ParseOps(dialect, text)
			if e != api.OK {
				t.Error(dialect, e)
			}
			if ok, e := program.CheckCut(l, read); !ok || e != api.OK {
				t.Error("the program does not make the layout", ok, e)
			}
		}
		for dialect, want := range map[int]api.Errno{api.Press: api.ErrProgram, 0: api.ErrArg, 4: api.ErrArg, -1: api.ErrArg} {
			if text, e := s.CutProgram("s", dialect); e != want || text != "" {
				t.Error(dialect, text, e)
			}
		}
		after(t, s, cutting("s", 1))
	}
	if l, done, e := s.Items("s"); e != api.ErrState || len(l) != 0 || done != 0 {
		t.Error(l, done, e)
	}
}

// wantBendProgram checks the program for the channel on the machine as it is.
func wantBendProgram(t *testing.T, s *shop.Shop, p api.Part) {
	t.Helper()
	m := s.Machine()
	steps, found, e := brake.Plan(p, m, 8, 0)
	if e != api.OK || !found {
		t.Fatal(found, e)
	}
	needs, _ := setup.Options(p, m, 8, steps)
	changes, _ := setup.Plan(needs, m.Stations)
	ops, e := program.BendOps(p, m, 8, steps, changes)
	if e != api.OK {
		t.Fatal(e)
	}
	want, _ := program.FormatOps(api.Press, ops)
	text, e := s.BendProgram(p.Name)
	if e != api.OK || text != want {
		t.Error(text, e)
	}
	read, e := program.ParseOps(api.Press, text)
	if e != api.OK {
		t.Error(e)
	}
	if ok, e := program.CheckBend(p, tables()[2], m, read); !ok || e != api.OK {
		t.Error("the program does not make the part", ok, e)
	}
}

func TestBendProgram(t *testing.T) {
	s := begin(t, drawing(channel()), drawing(plate()))
	wantBendProgram(t, s, channel())
	after(t, s, broken("slim"))
	wantBendProgram(t, s, channel())
	// The program is that of the shop's drawing, whatever has been cut before.
	after(t, s, sheet(stock("s")), ordering("o", "u", 1), nesting(), cutting("s", -1))
	p := channel()
	p.Flanges = p.Flanges[1:]
	after(t, s, drawing(p))
	wantBendProgram(t, s, p)
	if text, e := s.BendProgram("v"); e != api.OK || text != "" {
		t.Error("a part without flanges", text, e)
	}
	after(t, s, broken("hook"))
	if text, e := s.BendProgram("u"); e != api.ErrStep || text != "" {
		t.Error("only the wide punch is left", text, e)
	}
	if text, e := s.BendProgram("v"); e != api.OK || text != "" {
		t.Error("a part without flanges", text, e)
	}
}
