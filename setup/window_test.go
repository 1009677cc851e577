package setup_test

import (
	"math/bits"
	"math/rand"
	"slices"
	"testing"

	"sheetmetal/api"
	"sheetmetal/setup"
)

// wrongWindows returns windows that are not valid for the four steps of alternating.
func wrongWindows() []api.Window {
	l := []api.Window{{From: -1, To: 0}, {From: -1, To: -1}, {From: 1, To: 0}, {From: 3, To: 2}, {From: 0, To: 4}, {From: 4, To: 4}, {From: 4, To: 3}}
	for _, n := range wild {
		l = append(l, api.Window{From: n, To: 1}, api.Window{From: 1, To: n}, api.Window{From: n, To: n})
	}
	return l
}

func TestServes(t *testing.T) {
	for _, x := range []struct {
		needs [][]int
		w     api.Window
		pairs []int
		want  bool
	}{
		{alternating(), api.Window{From: 0, To: 3}, []int{0, 1}, true},
		{alternating(), api.Window{From: 0, To: 3}, []int{0, 1, 2, 3, 4, 5, 6, 7, 8}, true},
		{alternating(), api.Window{From: 0, To: 3}, []int{0}, false},
		{alternating(), api.Window{From: 0, To: 3}, []int{1}, false},
		{alternating(), api.Window{From: 0, To: 3}, nil, false},
		{alternating(), api.Window{From: 0, To: 0}, []int{0}, true},
		{alternating(), api.Window{From: 0, To: 0}, []int{1}, false},
		{alternating(), api.Window{From: 0, To: 0}, nil, false},
		{alternating(), api.Window{From: 3, To: 3}, []int{1}, true},
		{alternating(), api.Window{From: 0, To: 1}, []int{0}, false},
		{chain(), api.Window{From: 0, To: 1}, []int{1}, true},
		{chain(), api.Window{From: 1, To: 2}, []int{1}, false},
		{chain(), api.Window{From: 1, To: 2}, []int{2}, true},
		{chain(), api.Window{From: 0, To: 2}, []int{1, 3}, true},
		{chain(), api.Window{From: 0, To: 2}, []int{0, 3}, false},
		{chain(), api.Window{From: 0, To: 2}, []int{4, 8}, false},
	} {
		if got, e := setup.Serves(x.needs, x.w, x.pairs); got != x.want || e != api.OK {
			t.Error(x.needs, x.w, x.pairs, got, e)
		}
	}
}

func TestErrorsOfServes(t *testing.T) {
	for _, w := range wrongWindows() {
		for _, pairs := range [][]int{nil, {0, 1}, {1, 0}} {
			if got, e := setup.Serves(alternating(), w, pairs); got || e != api.ErrArg {
				t.Error(w, pairs, got, e)
			}
		}
	}
	noSets := [][]int{{1, 0}, {0, 0}, {-1}, {9}, {0, 9}, {0, 1, 1}, {0, 1, 2, 3, 4, 5, 6, 7, 8, 9}, make([]int, 100000)}
	for _, n := range wild {
		noSets = append(noSets, []int{n}, []int{0, n})
	}
	for _, pairs := range noSets {
		if got, e := setup.Serves(alternating(), api.Window{From: 0, To: 1}, pairs); got || e != api.ErrArg {
			t.Error(pairs[:min(len(pairs), 10)], got, e)
		}
	}
	if got, e := setup.Serves(nil, api.Window{}, nil); got || e != api.ErrArg {
		t.Error("no steps", got, e)
	}
}

func TestBlocked(t *testing.T) {
	four := [][]int{{0}, {1}, {2}, {3}}
	for _, x := range []struct {
		needs    [][]int
		stations int
		w        api.Window
		want     bool
	}{
		{alternating(), 1, api.Window{From: 0, To: 3}, true},
		{alternating(), 1, api.Window{From: 2, To: 3}, true},
		{alternating(), 1, api.Window{From: 2, To: 2}, false},
		{alternating(), 2, api.Window{From: 0, To: 3}, false},
		{alternating(), 3, api.Window{From: 0, To: 3}, false},
		{chain(), 1, api.Window{From: 0, To: 1}, false},
		{chain(), 1, api.Window{From: 1, To: 2}, false},
		{chain(), 1, api.Window{From: 0, To: 2}, true},
		{chain(), 2, api.Window{From: 0, To: 2}, false},
		{four, 2, api.Window{From: 0, To: 2}, true},
		{four, 2, api.Window{From: 1, To: 2}, false},
		{four, 3, api.Window{From: 0, To: 3}, true},
		{four, 3, api.Window{From: 1, To: 3}, false},
		{[][]int{{8}, {7}, {6}}, 3, api.Window{From: 0, To: 2}, false},
		{[][]int{{8}, {7}, {6}}, 2, api.Window{From: 0, To: 2}, true},
		{steps(24), 1, api.Window{From: 0, To: 23}, false},
	} {
		if got, e := setup.Blocked(x.needs, x.stations, x.w); got != x.want || e != api.OK {
			t.Error(x.needs, x.stations, x.w, got, e)
		}
	}
	for _, w := range wrongWindows() {
		if got, e := setup.Blocked(alternating(), 1, w); got || e != api.ErrArg {
			t.Error(w, got, e)
		}
	}
	if got, e := setup.Blocked(nil, 1, api.Window{}); got || e != api.ErrArg {
		t.Error("no steps", got, e)
	}
}

// TestBlockedByServes holds Blocked against Serves of all sets of pairs.
func TestBlockedByServes(t *testing.T) {
	r := rand.New(rand.NewSource(56))
	for range 60 {
		needs := scarceNeeds(r, 8, 9)
		from := r.Intn(8)
		w := api.Window{From: from, To: from + r.Intn(8-from)}
		fewest := 10
		for set := range 1 << 9 {
			served, e := setup.Serves(needs, w, elements(set))
			if e != api.OK {
				t.Fatal(needs, w, elements(set), e)
			}
			if served {
				fewest = min(fewest, bits.OnesCount(uint(set)))
			}
		}
		for stations := 1; stations <= 3; stations++ {
			if got, e := setup.Blocked(needs, stations, w); got != (fewest > stations) || e != api.OK {
				t.Error(needs, stations, w, got, e)
			}
		}
	}
}

func TestCheckBound(t *testing.T) {
	for _, x := range []struct {
		name     string
		needs    [][]int
		stations int
		l        []api.Window
		n        int
		want     api.Errno
	}{
		{"each change", alternating(), 1, []api.Window{{From: 0, To: 1}, {From: 1, To: 2}, {From: 2, To: 3}}, 4, api.OK},
		{"a gap", alternating(), 1, []api.Window{{From: 0, To: 1}, {From: 2, To: 3}}, 3, api.OK},
		{"one wide window", alternating(), 1, []api.Window{{From: 0, To: 3}}, 2, api.OK},
		{"no windows", alternating(), 1, nil, 1, api.OK},
		{"no windows, three stations", alternating(), 3, nil, 1, api.OK},
		{"no steps", nil, 1, nil, 0, api.OK},
		{"two stations", [][]int{{0}, {1}, {2}, {0}, {1}}, 2, []api.Window{{From: 0, To: 2}, {From: 2, To: 4}}, 3, api.OK},
		{"a window of no steps", nil, 1, []api.Window{{}}, 0, api.ErrArg},
		{"they overlap", alternating(), 1, []api.Window{{From: 0, To: 2}, {From: 1, To: 3}}, 0, api.ErrOrder},
		{"twice", alternating(), 1, []api.Window{{From: 0, To: 1}, {From: 0, To: 1}}, 0, api.ErrOrder},
		{"the later one first", alternating(), 1, []api.Window{{From: 2, To: 3}, {From: 0, To: 1}}, 0, api.ErrOrder},
		{"overlap at the end", alternating(), 1, []api.Window{{From: 0, To: 1}, {From: 1, To: 3}, {From: 2, To: 3}}, 0, api.ErrOrder},
		{"one step", alternating(), 1, []api.Window{{From: 1, To: 1}}, 0, api.ErrStep},
		{"one step, many times", alternating(), 1, make([]api.Window, 100000), 0, api.ErrStep},
		{"enough stations", alternating(), 2, []api.Window{{From: 0, To: 3}}, 0, api.ErrStep},
		{"the last one is not blocked", chain(), 1, []api.Window{{From: 0, To: 2}, {From: 2, To: 2}}, 0, api.ErrStep},
		{"overlap, and not blocked", alternating(), 1, []api.Window{{From: 1, To: 1}, {From: 0, To: 1}}, 0, api.ErrOrder},
		{"not valid, and not blocked", alternating(), 1, []api.Window{{From: 1, To: 1}, {From: 3, To: 4}}, 0, api.ErrArg},
		{"overlap, and not valid at the end", alternating(), 1, []api.Window{{From: 0, To: 2}, {From: 1, To: 3}, {From: 3, To: 4}}, 0, api.ErrArg},
	} {
		if n, e := setup.CheckBound(x.needs, x.stations, x.l); n != x.n || e != x.want {
			t.Error(x.name, n, e)
		}
	}
	for _, w := range wrongWindows() {
		for _, l := range [][]api.Window{{w}, {{From: 1, To: 1}, w}, {{From: 1, To: 2}, {From: 0, To: 3}, w}} {
			if n, e := setup.CheckBound(alternating(), 1, l); n != 0 || e != api.ErrArg {
				t.Error(l, n, e)
			}
		}
	}
}

func TestBound(t *testing.T) {
	for _, x := range []struct {
		needs    [][]int
		stations int
		want     []api.Window
	}{
		{nil, 1, nil},
		{steps(24), 1, nil},
		{alternating(), 1, []api.Window{{From: 0, To: 1}, {From: 1, To: 2}, {From: 2, To: 3}}},
		{alternating(), 2, nil},
		{chain(), 1, []api.Window{{From: 0, To: 2}}},
		{chain(), 2, nil},
		{[][]int{{0}, {0}, {1}, {1}, {2}}, 1, []api.Window{{From: 0, To: 2}, {From: 2, To: 4}}},
		{[][]int{{0}, {1}, {2}, {0}, {1}}, 2, []api.Window{{From: 0, To: 2}, {From: 2, To: 4}}},
		{[][]int{{0}, {1}, {2}, {3}, {3}, {0}, {1}}, 3, []api.Window{{From: 0, To: 3}}},
		{[][]int{{0}, {1}, {2}, {3}, {3}, {0}, {1}, {2}}, 3, []api.Window{{From: 0, To: 3}, {From: 3, To: 7}}},
	} {
		if got, e := setup.Bound(x.needs, x.stations); e != api.OK || !slices.Equal(got, x.want) {
			t.Error(x.needs, x.stations, got, e)
		}
	}
}

// narrowest returns the windows of P5.7, by Blocked of all windows.
func narrowest(t *testing.T, needs [][]int, stations int) []api.Window {
	t.Helper()
	var l []api.Window
	from := 0
	for to := 0; to < len(needs); to++ {
		w := api.Window{From: from, To: to}
		found, e := setup.Blocked(needs, stations, w)
		if e != api.OK {
			t.Fatal(needs, stations, w, e)
		}
		if found {
			l, from = append(l, w), to
		}
	}
	return l
}

func TestBoundIsBelowLeast(t *testing.T) {
	r := rand.New(rand.NewSource(57))
	for range 150 {
		needs := scarceNeeds(r, 1+r.Intn(24), 2+r.Intn(8))
		for stations := 1; stations <= 3; stations++ {
			l, e := setup.Bound(needs, stations)
			if e != api.OK || !slices.Equal(l, narrowest(t, needs, stations)) {
				t.Error(needs, stations, l, e)
			}
			n, e := setup.CheckBound(needs, stations, l)
			least, _ := setup.Least(needs, stations)
			if e != api.OK || n != len(l)+1 || n > least || stations == 1 && n != least {
				t.Error(needs, stations, l, n, least, e)
			}
		}
	}
}

// TestAcceptedBounds holds that no list of windows that CheckBound accepts proves too much.
func TestAcceptedBounds(t *testing.T) {
	r := rand.New(rand.NewSource(58))
	accepted := 0
	for range 3000 {
		needs, stations := scarceNeeds(r, 8, 5), 1+r.Intn(2)
		var l []api.Window
		for range r.Intn(4) {
			from := r.Intn(7)
			l = append(l, api.Window{From: from, To: from + 1 + r.Intn(7-from)})
		}
		slices.SortFunc(l, func(a, b api.Window) int { return a.From - b.From })
		n, e := setup.CheckBound(needs, stations, l)
		least, _ := setup.Least(needs, stations)
		if n > least || e == api.OK && n != len(l)+1 || e != api.OK && n != 0 {
			t.Error(needs, stations, l, n, least, e)
		}
		if e == api.OK && len(l) > 0 {
			accepted++
		}
	}
	if accepted < 100 {
		t.Error("too few were accepted", accepted)
	}
}
