package shop_test

import (
	"reflect"
	"slices"
	"strconv"
	"testing"

	"sheetmetal/api"
	"sheetmetal/cut"
	"sheetmetal/geom"
	"sheetmetal/shop"
)

func TestReceive(t *testing.T) {
	s := begin(t, sheet(stock("s")))
	for _, x := range []struct {
		name   string
		change func(x *api.Sheet)
		want   api.Errno
	}{
		{"a bad name", func(x *api.Sheet) { x.Name, x.Width = "", 0 }, api.ErrName},
		{"a bad material", func(x *api.Sheet) { x.Material = "Steel" }, api.ErrName},
		{"no width, and a known name", func(x *api.Sheet) { x.Width = 0 }, api.ErrArg},
		{"a clamp that is not on it", func(x *api.Sheet) { x.Clamps = []api.Rect{{X: -1, W: 2, H: 2}} }, api.ErrFit},
		{"too much used", func(x *api.Sheet) { x.Used = make([]api.Rect, api.MaxRects+1) }, api.ErrLarge},
		{"a known name", func(x *api.Sheet) { x.Material = "zinc" }, api.ErrName},
	} {
		bad := stock("s")
		x.change(&bad)
		refuse(t, s, sheet(bad), x.want)
	}
	zinc := stock("r")
	zinc.Material, zinc.Used, zinc.Clamps = "zinc", []api.Rect{{W: 5, H: 5}}, []api.Rect{{X: 9, W: 5, H: 5}}
	after(t, s, sheet(zinc), sheet(stock("a")), sheet(stock("q")))
	if got := s.Sheets(); !reflect.DeepEqual(got, []api.Sheet{stock("s"), zinc, stock("a"), stock("q")}) {
		t.Error(got)
	}
	refuse(t, s, sheet(stock("p")), api.ErrLarge)
	refuse(t, s, sheet(stock("q")), api.ErrName)
	after(t, s, wrong("a"))
	refuse(t, s, sheet(stock("a")), api.ErrName)
	after(t, s, sheet(stock("p")))
	if got := stockNames(s); !slices.Equal(got, []string{"s", "r", "q", "p"}) {
		t.Error(got)
	}
}

// Each piece goes to the first sheet that has a place for it, whatever came before.
func TestNestSheets(t *testing.T) {
	brass := stock("b")
	brass.Material = "brass"
	along := stock("g")
	along.Grain = api.GrainY
	s := begin(t, drawing(channel()), drawing(plate()), sheet(brass), sheet(along), sheet(stock("s")), ordering("o", "u", 3), ordering("o1", "v", 4), nesting())
	var got []string
	for _, x := range s.Pieces() {
		got = append(got, x.Sheet)
	}
	if want := []string{"g", "g", "s", "g", "g", "s", "s"}; !slices.Equal(got, want) {
		t.Error(got)
	}
	if l, numbers, _ := s.Layout("g"); !slices.Equal(numbers, []int{0, 1, 3, 4}) || !reflect.DeepEqual(l, layoutOf(t, along, channel(), channel(), plate(), plate())) {
		t.Error(l, numbers)
	}
	if l, numbers, _ := s.Layout("s"); !slices.Equal(numbers, []int{2, 5, 6}) || !reflect.DeepEqual(l, layoutOf(t, stock("s"), channel(), plate(), plate())) {
		t.Error(l, numbers)
	}
	if l, numbers, e := s.Layout("b"); e != api.OK || len(numbers) != 0 || !reflect.DeepEqual(l, api.Layout{Sheet: brass}) {
		t.Error(l, numbers, e)
	}
}

// The grain of a part and a sheet decides how it may be turned.
func TestNestGrain(t *testing.T) {
	p := channel()
	p.Grain = api.GrainX
	across := stock("g")
	across.Grain = api.GrainY
	s := begin(t, drawing(p), sheet(across), ordering("o", "u", 1), nesting())
	wantStates(t, s, api.Waiting)
	high := across
	high.Name, high.Width, high.Height = "h", across.Height, across.Width
	after(t, s, sheet(high), nesting())
	if x := s.Pieces()[0]; x.State != api.Nested || x.Sheet != "h" {
		t.Error(x)
	}
}

// Pieces that find no place stay waiting; smaller ones that come later are nested.
func TestNestWithoutPlace(t *testing.T) {
	s := begin(t, drawing(channel()), drawing(plate()), ordering("o", "u", 3), ordering("o1", "v", 1), nesting())
	wantStates(t, s, api.Waiting, api.Waiting, api.Waiting, api.Waiting)
	after(t, s, sheet(stock("s")), nesting())
	wantStates(t, s, api.Nested, api.Nested, api.Waiting, api.Nested)
	after(t, s, nesting())
	wantStates(t, s, api.Nested, api.Nested, api.Waiting, api.Nested)
	after(t, s, sheet(stock("r")), nesting())
	wantStates(t, s, api.Nested, api.Nested, api.Nested, api.Nested)
	if x := s.Pieces()[2]; x.Sheet != "r" {
		t.Error(x)
	}
}

// A sheet takes at most MaxPieces pieces, even if there is a place for more.
func TestNestMostPieces(t *testing.T) {
	big := stock("big")
	big.Width, big.Height = 300000, 300000
	s := begin(t, drawing(plate()), sheet(big), ordering("o", "v", 4), ordering("o1", "v", 4), nesting(), ordering("o2", "v", 1), nesting())
	want := append(slices.Repeat([]int{api.Nested}, 8), api.Waiting)
	wantStates(t, s, want...)
	after(t, s, cutting("big", -1), nesting())
	if _, numbers, _ := s.Layout("big"); !slices.Equal(numbers, []int{8}) {
		t.Error(numbers)
	}
}

// A sheet in progress takes no more pieces, a sheet of which nothing has been cut does, and so does one that is done.
func TestNestInProgress(t *testing.T) {
	s := begin(t, drawing(channel()), drawing(plate()), sheet(stock("s")), ordering("o", "u", 2), nesting(), ordering("o1", "v", 1), cutting("s", 1))
	before := workOn(s, "s")
	after(t, s, nesting())
	if !reflect.DeepEqual(before, workOn(s, "s")) {
		t.Error("the work on the sheet changed")
	}
	wantStates(t, s, api.Nested, api.Cut, api.Waiting)
	after(t, s, cutting("s", -1), nesting())
	wantStates(t, s, api.Cut, api.Cut, api.Nested)
	after(t, s, ordering("o2", "v", 1), cutting("s", 0), nesting())
	if _, numbers, _ := s.Layout("s"); !slices.Equal(numbers, []int{2, 3}) {
		t.Error(numbers)
	}
}

// The settings and what is used or under clamps decide where pieces lie.
func TestNestPlaces(t *testing.T) {
	x := stock("s")
	x.Clamps, x.Used = []api.Rect{{W: 1000, H: 30000}}, []api.Rect{{X: 1000, Y: 0, W: 500, H: 400}}
	s, e := shop.New(machine(), tables(), api.Settings{Gap: 720, Margin: 30, Common: true})
	if e != api.OK {
		t.Fatal(e)
	}
	after(t, s, drawing(plate()), sheet(x), ordering("o", "v", 2), nesting())
	l, _, _ := s.Layout("s")
	want := []api.Rect{{X: 1500, Y: 30, W: 14400, H: 14400}, {X: 15900, Y: 30, W: 14400, H: 14400}}
	if len(l.Pieces) != 2 || !slices.Equal(slices.Concat(l.Pieces[0].Rects, l.Pieces[1].Rects), want) {
		t.Error(l.Pieces)
	}
}

func TestCutErrors(t *testing.T) {
	s := begin(t, drawing(channel()), sheet(stock("s")), sheet(stock("r")), ordering("o", "u", 2))
	for _, n := range []int{-1, 0, 1} {
		refuse(t, s, cutting("s", n), api.ErrState)
		refuse(t, s, cutting("z", n), api.ErrNone)
		refuse(t, s, cutting("", n), api.ErrNone)
	}
	after(t, s, nesting(), cutting("s", -1), wrong("r"))
	for _, n := range []int{-1, 0, 1} {
		refuse(t, s, cutting("s", n), api.ErrState)
		refuse(t, s, cutting("r", n), api.ErrNone)
	}
}

// mixed are the events that nest a channel with a hole, two strips, a plate and a channel, each of its own order.
func mixed() []api.Event {
	big := stock("s")
	big.Width = 200000
	p := holed()
	p.Name = "v1"
	return []api.Event{drawing(channel()), drawing(plate()), drawing(strip()), drawing(p), sheet(big),
		ordering("o", "v1", 1), ordering("o1", "w", 2), ordering("o2", "v", 1), ordering("o3", "u", 1), nesting()}
}

// cutStates returns the states of pieces of a layout after some of its items.
func cutStates(t *testing.T, l api.Layout, items []api.Item, done int) []int {
	t.Helper()
	st, _, e := cut.Run(l, items[:done])
	if e != api.OK {
		t.Fatal(e)
	}
	var result []int
	for i, x := range l.Pieces {
		switch {
		case !st.Fallen[i] && done < len(items):
			result = append(result, api.Nested)
		case len(x.Rects) == 1:
			result = append(result, api.Finished)
		default:
			result = append(result, api.Cut)
		}
	}
	return result
}

// A controller that stops after any number of items leaves what has fallen as cut; the next run goes on.
func TestCutInParts(t *testing.T) {
	whole := begin(t, mixed()...)
	l, numbers, _ := whole.Layout("s")
	items, done, e := whole.Items("s")
	if e != api.OK || done != 0 || len(items) != 6 || !slices.Equal(numbers, []int{0, 1, 2, 3, 4}) {
		t.Fatal(items, done, numbers, e)
	}
	after(t, whole, cutting("s", -1))
	for first := range len(items) + 1 {
		for second := range len(items) + 2 - first {
			s := begin(t, mixed()...)
			before := workOn(s, "s")
			count := 0
			for _, n := range []int{first, 0, second} {
				if count == len(items) {
					break
				}
				after(t, s, cutting("s", n))
				count = min(count+n, len(items))
				wantStates(t, s, cutStates(t, l, items, count)...)
				if count < len(items) {
					before.done = count
					if got := workOn(s, "s"); !reflect.DeepEqual(got, before) {
						t.Error(first, second, got)
					}
				}
			}
			if count < len(items) {
				after(t, s, cutting("s", 1000))
			}
			if !reflect.DeepEqual(lookAt(s), lookAt(whole)) {
				t.Error(first, second, "is not the same as without a stop")
			}
		}
	}
	for _, n := range []int{6, 7, 1 << 62, -1 << 63} {
		s := begin(t, mixed()...)
		after(t, s, cutting("s", n))
		if !reflect.DeepEqual(lookAt(s), lookAt(whole)) {
			t.Error(n)
		}
		s = begin(t, mixed()...)
		after(t, s, cutting("s", 1), cutting("s", n))
		if !reflect.DeepEqual(lookAt(s), lookAt(whole)) {
			t.Error(n, "after a stop")
		}
	}
}

// Pieces that micro joints hold fall when all is done.
func TestCutWithJoints(t *testing.T) {
	s := begin(t, drawing(strip()), sheet(stock("s")), ordering("o", "w", 3), nesting(), cutting("s", 2))
	wantStates(t, s, api.Nested, api.Nested, api.Nested)
	for i := range 3 {
		refuse(t, s, scrapping(i), api.ErrState)
	}
	after(t, s, cutting("s", 1))
	wantStates(t, s, api.Finished, api.Finished, api.Finished)
}

// What has been cut is used; the next pieces lie beside it.
func TestUsed(t *testing.T) {
	x := stock("s")
	x.Used = []api.Rect{{Y: 25000, W: 10, H: 10}}
	s := begin(t, drawing(channel()), sheet(x), ordering("o", "u", 1), nesting())
	first, _, _ := s.Layout("s")
	after(t, s, cutting("s", 1))
	if l, numbers, e := s.Layout("s"); e != api.OK || len(numbers) != 0 || len(l.Pieces) != 0 || len(l.Sheet.Used) != 4 {
		t.Error(l, numbers, e)
	}
	after(t, s, ordering("o1", "u", 1), nesting())
	second, _, _ := s.Layout("s")
	after(t, s, cutting("s", 1))
	want := slices.Concat(x.Used, first.Pieces[0].Rects, second.Pieces[0].Rects)
	if got := s.Sheets(); len(got) != 1 || !slices.Equal(got[0].Used, want) {
		t.Error(got)
	}
	// No gap is left to what is used.
	if second.Pieces[0].Rects[2].X != first.Pieces[0].Rects[1].X+first.Pieces[0].Rects[1].W {
		t.Error(second.Pieces[0])
	}
}

// A sheet of which too many rectangles are used leaves the stock; its name is not free again, and its pieces can still be wrong.
func TestUsedUp(t *testing.T) {
	for _, x := range []struct {
		used int
		left bool
	}{{api.MaxRects - 1, true}, {api.MaxRects, false}} {
		full := stock("s")
		for i := range x.used {
			full.Used = append(full.Used, api.Rect{X: 100000 + 2*i, Y: 29999, W: 1, H: 1})
		}
		s := begin(t, drawing(plate()), sheet(stock("r")), sheet(full), ordering("o", "v", 1), wrong("r"), nesting(), cutting("s", -1))
		wantStates(t, s, api.Finished)
		if got := stockNames(s); (len(got) == 1) != x.left {
			t.Error(x.used, got)
		}
		refuse(t, s, sheet(stock("s")), api.ErrName)
		if x.left {
			if got := s.Sheets()[0].Used; len(got) != api.MaxRects {
				t.Error(got)
			}
			continue
		}
		if _, _, e := s.Layout("s"); e != api.ErrNone {
			t.Error(e)
		}
		refuse(t, s, cutting("s", -1), api.ErrNone)
		after(t, s, wrong("s"))
		want := []api.Made{{Part: "v", Order: "o", State: api.Scrapped, Sheet: "s", Reason: api.EvWrong}, {Part: "v", Order: "o", State: api.Waiting}}
		if got := s.Pieces(); !slices.Equal(got, want) {
			t.Error(got)
		}
	}
}

// No area is used twice: what is used are the pieces that were cut, and what was used at first.
func TestUsedArea(t *testing.T) {
	x := stock("s")
	x.Height, x.Used = 50000, []api.Rect{{X: 4000, Y: 4000, W: 3000, H: 2000}}
	s := begin(t, drawing(channel()), drawing(plate()), drawing(strip()), sheet(x))
	area := 3000 * 2000
	for i, name := range []string{"u", "v", "w", "v", "w"} {
		after(t, s, ordering("o"+strconv.Itoa(i), name, 3-i/2), nesting())
		l, _, _ := s.Layout("s")
		for _, piece := range l.Pieces {
			n, _ := geom.Area(piece.Rects)
			area += n
		}
		after(t, s, cutting("s", -1))
		if got, e := geom.Area(s.Sheets()[0].Used); e != api.OK || got != area {
			t.Error(i, got, area)
		}
	}
}

func TestWrong(t *testing.T) {
	events := []api.Event{drawing(channel()), drawing(plate()), sheet(stock("s")), sheet(stock("r")), ordering("o", "u", 4), nesting(), cutting("s", -1), bending(0, -1), bending(1, 1), scrapping(1)}
	s := begin(t, events...)
	wantStates(t, s, api.Finished, api.Scrapped, api.Nested, api.Nested, api.Waiting)
	bent := s.Pieces()[1].Bent
	after(t, s, wrong("s"))
	want := []api.Made{
		{Part: "u", Order: "o", State: api.Scrapped, Sheet: "s", Bent: 3, Reason: api.EvWrong},
		{Part: "u", Order: "o", State: api.Scrapped, Sheet: "s", Bent: bent, Reason: api.EvScrap},
		{Part: "u", Order: "o", State: api.Nested, Sheet: "r"},
		{Part: "u", Order: "o", State: api.Nested, Sheet: "r"},
		{Part: "u", Order: "o", State: api.Waiting},
		{Part: "u", Order: "o", State: api.Waiting},
	}
	if got := s.Pieces(); !slices.Equal(got, want) || !slices.Equal(stockNames(s), []string{"r"}) {
		t.Error(got, stockNames(s))
	}
	before := lookAt(s)
	after(t, s, wrong("s"))
	if !reflect.DeepEqual(before, lookAt(s)) {
		t.Error("what is scrapped was scrapped again")
	}
	refuse(t, s, wrong("q"), api.ErrNone)
	refuse(t, s, wrong(""), api.ErrNone)
	after(t, s, cutting("r", 1), wrong("r"))
	wantStates(t, s, api.Scrapped, api.Scrapped, api.Scrapped, api.Scrapped, api.Waiting, api.Waiting, api.Waiting, api.Waiting)
	if len(s.Sheets()) != 0 {
		t.Error(s.Sheets())
	}
}

// The pieces that replace others are added in the order of those, whatever their parts and orders are.
func TestWrongOrder(t *testing.T) {
	s := begin(t, drawing(channel()), drawing(plate()), sheet(stock("s")), ordering("o", "v", 2), ordering("o1", "u", 1), ordering("o2", "v", 1), nesting(), wrong("s"))
	var got []string
	for _, x := range s.Pieces()[4:] {
		got = append(got, x.Part+x.Order)
	}
	if !slices.Equal(got, []string{"vo", "vo", "uo1", "vo2"}) {
		t.Error(got)
	}
}
