package shop_test

import (
	"reflect"
	"slices"
	"testing"

	"sheetmetal/api"
	"sheetmetal/brake"
	"sheetmetal/shop"
)

func TestOrder(t *testing.T) {
	s := begin(t, drawing(channel()), drawing(plate()))
	for _, x := range []struct {
		order, part string
		count       int
		want        api.Errno
	}{
		{"O", "z", 0, api.ErrName},
		{"", "u", 1, api.ErrName},
		{"part", "u", 1, api.ErrName},
		{"123", "u", 1, api.ErrName},
		{"toolong12", "u", 1, api.ErrName},
		{"o", "z", 0, api.ErrNone},
		{"o", "", 1, api.ErrNone},
		{"o", "u", 0, api.ErrArg},
		{"o", "u", -1, api.ErrArg},
		{"o", "u", 5, api.ErrArg},
		{"o", "u", 1 << 62, api.ErrArg},
		{"o", "u", 4, api.OK},
		{"o", "z", 0, api.ErrName},
		{"o1", "v", 1, api.OK},
		{"u", "u", 1, api.OK},
		{"o3", "v", 1, api.OK},
		{"o4", "u", 2, api.OK},
		{"o5", "v", 1, api.OK},
		{"o6", "z", 1, api.ErrNone},
		{"o6", "u", 0, api.ErrArg},
		{"o6", "u", 1, api.ErrLarge},
		{"o5", "u", 1, api.ErrName},
	} {
		refuse(t, s, ordering(x.order, x.part, x.count), x.want)
	}
	var got []string
	for _, x := range s.Pieces() {
		if x != (api.Made{Part: x.Part, Order: x.Order, State: api.Waiting}) {
			t.Error(x)
		}
		got = append(got, x.Part+x.Order)
	}
	if want := []string{"uo", "uo", "uo", "uo", "vo1", "uu", "vo3", "uo4", "uo4", "vo5"}; !slices.Equal(got, want) {
		t.Error(got)
	}
}

// cutChannels returns a shop with two channels that are cut, and further ones that are waiting.
func cutChannels(t *testing.T, l ...api.Event) *shop.Shop {
	t.Helper()
	return begin(t, append([]api.Event{drawing(channel()), sheet(stock("s")), ordering("o", "u", 3), nesting(), cutting("s", -1)}, l...)...)
}

func TestBendErrors(t *testing.T) {
	s := cutChannels(t, sheet(stock("r")), drawing(plate()), ordering("o1", "v", 1), ordering("o2", "u", 4), nesting(), bending(0, -1), scrapping(0))
	wantStates(t, s, api.Scrapped, api.Cut, api.Nested, api.Nested, api.Nested, api.Waiting, api.Waiting, api.Waiting, api.Waiting)
	for _, count := range []int{-1, 0, 1} {
		for _, n := range []int{-1, 9, 1 << 62, -1 << 63} {
			refuse(t, s, bending(n, count), api.ErrNone)
		}
		for _, n := range []int{0, 2, 3, 5} {
			refuse(t, s, bending(n, count), api.ErrState)
		}
	}
	after(t, s, broken("slim"), broken("hook"))
	for _, count := range []int{-1, 0, 1} {
		refuse(t, s, bending(1, count), api.ErrStep)
		refuse(t, s, bending(5, count), api.ErrState)
		refuse(t, s, bending(9, count), api.ErrNone)
	}
}

func TestBend(t *testing.T) {
	for _, x := range []struct {
		counts []int
		bends  int
	}{
		{nil, 0},
		{[]int{0}, 0},
		{[]int{0, 0}, 0},
		{[]int{1}, 1},
		{[]int{1, 0}, 1},
		{[]int{1, 1}, 2},
		{[]int{2}, 2},
		{[]int{3}, 2},
		{[]int{1 << 62}, 2},
		{[]int{-1}, 2},
		{[]int{-1 << 63}, 2},
		{[]int{1, -1}, 2},
		{[]int{1, 5}, 2},
	} {
		s := cutChannels(t)
		steps, found, e := s.Sequence(1)
		if len(steps) != 2 || !found || e != api.OK {
			t.Fatal(steps, found, e)
		}
		for _, count := range x.counts {
			after(t, s, bending(1, count))
		}
		want := api.Made{Part: "u", Order: "o", State: api.Cut, Sheet: "s"}
		for _, step := range steps[:x.bends] {
			want.Bent |= 1 << step.Flange
		}
		if x.bends == 2 {
			want.State = api.Finished
			refuse(t, s, bending(1, 0), api.ErrState)
		}
		if got := s.Pieces(); got[1] != want || got[0].Bent != 0 || got[0].State != api.Cut {
			t.Error(x.counts, got)
		}
	}
}

// The sequence is that of brake.Plan on the machine as it is, for what is still to be bent.
func TestSequence(t *testing.T) {
	s := cutChannels(t)
	for _, events := range [][]api.Event{nil, {bending(0, 1)}, {broken("slim")}, {broken("hook")}} {
		after(t, s, events...)
		for n := range 2 {
			bent := s.Pieces()[n].Bent
			want, ok, e := brake.Plan(channel(), s.Machine(), 8, bent)
			steps, found, err := s.Sequence(n)
			if e != api.OK || err != api.OK || found != ok || !slices.Equal(steps, want) {
				t.Error(n, steps, found, err)
			}
		}
	}
	if steps, found, e := s.Sequence(0); len(steps) != 0 || found || e != api.OK {
		t.Error("only the wide punch is left", steps, found, e)
	}
	for n, want := range map[int]api.Errno{-1: api.ErrNone, 3: api.ErrNone, 2: api.ErrState} {
		if steps, found, e := s.Sequence(n); len(steps) != 0 || found || e != want {
			t.Error(n, steps, found, e)
		}
	}
}

// A punch that breaks after the first bend does not matter as long as another one can do the rest.
func TestBroken(t *testing.T) {
	s := cutChannels(t, bending(0, 1))
	m := machine()
	for _, name := range []string{"slim", "hook"} {
		refuse(t, s, broken("z"), api.ErrNone)
		refuse(t, s, broken("d"), api.ErrNone)
		m, _ = brake.WithoutPunch(m, name)
		after(t, s, broken(name))
		if !reflect.DeepEqual(s.Machine(), m) {
			t.Error(name, s.Machine())
		}
		refuse(t, s, broken(name), api.ErrNone)
		if name == "slim" {
			after(t, s, bending(0, -1), bending(1, 1))
		}
	}
	refuse(t, s, bending(1, -1), api.ErrStep)
	wantStates(t, s, api.Finished, api.Cut, api.Waiting)
	refuse(t, s, broken("wide"), api.ErrTool)
	after(t, s, scrapping(1))
	wantStates(t, s, api.Finished, api.Scrapped, api.Waiting, api.Waiting)
}

func TestScrap(t *testing.T) {
	s := cutChannels(t, bending(0, -1), bending(1, 1))
	for _, n := range []int{-1, 3, 1 << 62} {
		refuse(t, s, scrapping(n), api.ErrNone)
	}
	refuse(t, s, scrapping(2), api.ErrState)
	bent := s.Pieces()[1].Bent
	after(t, s, scrapping(1), scrapping(0))
	refuse(t, s, scrapping(0), api.ErrState)
	want := []api.Made{
		{Part: "u", Order: "o", State: api.Scrapped, Sheet: "s", Bent: 3, Reason: api.EvScrap},
		{Part: "u", Order: "o", State: api.Scrapped, Sheet: "s", Bent: bent, Reason: api.EvScrap},
		{Part: "u", Order: "o", State: api.Waiting},
		{Part: "u", Order: "o", State: api.Waiting},
		{Part: "u", Order: "o", State: api.Waiting},
	}
	if got := s.Pieces(); !slices.Equal(got, want) {
		t.Error(got)
	}
	after(t, s, sheet(stock("r")), nesting())
	refuse(t, s, scrapping(2), api.ErrState)
}

// A piece can't be scrapped while its sheet is in progress, but one that was cut from the same sheet before can.
func TestScrapInProgress(t *testing.T) {
	s := begin(t, drawing(plate()), drawing(channel()), sheet(stock("s")), ordering("o", "v", 1), nesting(), cutting("s", -1),
		ordering("o1", "v", 3), nesting(), cutting("s", 1))
	at := slices.Index(states(s)[1:], api.Finished) + 1
	if at == 0 {
		t.Fatal(s.Pieces())
	}
	for n := range 3 {
		refuse(t, s, scrapping(n+1), api.ErrState)
	}
	after(t, s, scrapping(0), cutting("s", 1))
	refuse(t, s, scrapping(at), api.ErrState)
	after(t, s, cutting("s", 1), scrapping(at))
}

func TestCount(t *testing.T) {
	s := cutChannels(t, bending(0, -1), drawing(plate()), ordering("o1", "v", 2), sheet(stock("r")), nesting())
	want := map[string][6]int{"o": {3, 0, 1, 1, 1}, "o1": {2, 0, 2}}
	check := func() {
		t.Helper()
		for name, n := range want {
			if got, e := s.Count(name); e != api.OK || got != n {
				t.Error(name, got, e)
			}
		}
	}
	check()
	after(t, s, scrapping(0), scrapping(1))
	want["o"] = [6]int{3, 2, 1, 0, 0, 2}
	check()
	after(t, s, wrong("r"))
	want["o"] = [6]int{3, 3, 0, 0, 0, 3}
	want["o1"] = [6]int{2, 0, 2}
	check()
	after(t, s, cutting("s", -1))
	want["o1"] = [6]int{2, 0, 0, 0, 2}
	check()
	for _, name := range []string{"", "o2", "u", "s"} {
		if got, e := s.Count(name); e != api.ErrNone || got != [6]int{} {
			t.Error(name, got, e)
		}
	}
}
