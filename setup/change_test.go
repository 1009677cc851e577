package setup_test

import (
	"math/rand"
	"slices"
	"testing"

	"sheetmetal/api"
	"sheetmetal/setup"
)

// outOfOrder returns lists of changes that are not in order for the four steps of alternating on two stations.
func outOfOrder() [][]api.Change {
	l := [][]api.Change{
		{{Step: 4}},
		{{Step: -1}},
		{{Station: 2}},
		{{Station: -1}},
		{{Pair: 9}},
		{{Pair: -1}},
		{{}, {Step: 1, Pair: 9}},
		{{Step: 1}, {Step: 0, Station: 1}},
		{{Step: 0}, {Step: 2}, {Step: 1}},
		{{}, {}},
		{{Pair: 0}, {Pair: 1}},
		{{Station: 1}, {Station: 0}, {Station: 1, Pair: 1}},
		{{Step: 0}, {Step: 3, Station: 1}, {Step: 3, Station: 0}, {Step: 3, Station: 1, Pair: 4}},
		make([]api.Change, 100000),
	}
	for _, n := range wild {
		l = append(l, []api.Change{{Step: n}}, []api.Change{{Station: n}}, []api.Change{{Pair: n}}, []api.Change{{}, {Step: n}})
	}
	return l
}

func TestMounted(t *testing.T) {
	l := []api.Change{{Step: 0, Station: 1, Pair: 4}, {Step: 0, Station: 0, Pair: 8}, {Step: 2, Station: 1, Pair: 0}, {Step: 3, Station: 1, Pair: 0}, {Step: 3, Station: 0, Pair: 0}}
	for _, x := range []struct {
		stations int
		l        []api.Change
		want     [][]int
	}{
		{1, nil, [][]int{{-1}, {-1}, {-1}, {-1}}},
		{3, nil, [][]int{{-1, -1, -1}, {-1, -1, -1}, {-1, -1, -1}, {-1, -1, -1}}},
		{2, l, [][]int{{8, 4}, {8, 4}, {8, 0}, {0, 0}}},
		{3, l, [][]int{{8, 4, -1}, {8, 4, -1}, {8, 0, -1}, {0, 0, -1}}},
		{3, []api.Change{{Step: 3, Station: 2, Pair: 5}}, [][]int{{-1, -1, -1}, {-1, -1, -1}, {-1, -1, -1}, {-1, -1, 5}}},
		{1, []api.Change{{Step: 1, Pair: 2}, {Step: 2, Pair: 3}, {Step: 3, Pair: 4}}, [][]int{{-1}, {2}, {3}, {4}}},
	} {
		for step, want := range x.want {
			if got, e := setup.Mounted(alternating(), x.stations, x.l, step); e != api.OK || !slices.Equal(got, want) {
				t.Error(x.stations, x.l, step, got, e)
			}
		}
	}
}

func TestErrorsOfMounted(t *testing.T) {
	noSteps := append([]int{-1, 4}, wild...)
	for _, l := range outOfOrder() {
		for _, step := range append([]int{0, 3}, noSteps...) {
			if got, e := setup.Mounted(alternating(), 2, l, step); len(got) != 0 || e != api.ErrOrder {
				t.Error(l[:min(len(l), 5)], step, got, e)
			}
		}
	}
	for _, step := range noSteps {
		for _, l := range [][]api.Change{nil, {{}}, {{Step: 3}}} {
			if got, e := setup.Mounted(alternating(), 2, l, step); len(got) != 0 || e != api.ErrArg {
				t.Error(l, step, got, e)
			}
		}
	}
	if got, e := setup.Mounted(nil, 1, nil, 0); len(got) != 0 || e != api.ErrArg {
		t.Error("no steps", got, e)
	}
	if got, e := setup.Mounted(nil, 1, []api.Change{{}}, 0); len(got) != 0 || e != api.ErrOrder {
		t.Error("no steps, a change", got, e)
	}
}

func TestCheck(t *testing.T) {
	for _, x := range []struct {
		name     string
		needs    [][]int
		stations int
		l        []api.Change
		want     api.Errno
	}{
		{"both are mounted", alternating(), 2, []api.Change{{}, {Step: 1, Station: 1, Pair: 1}}, api.OK},
		{"both before the first step", alternating(), 2, []api.Change{{Station: 1, Pair: 1}, {Station: 0}}, api.OK},
		{"one after the other", alternating(), 1, []api.Change{{}, {Step: 1, Pair: 1}, {Step: 2}, {Step: 3, Pair: 1}}, api.OK},
		{"a change without need", alternating(), 3, []api.Change{{}, {Step: 0, Station: 2, Pair: 7}, {Step: 1, Station: 1, Pair: 1}, {Step: 3, Station: 0, Pair: 7}}, api.OK},
		{"the same pair again", steps(2), 1, []api.Change{{}, {Step: 1}}, api.OK},
		{"the same pair twice", steps(2), 2, []api.Change{{}, {Station: 1}, {Step: 1, Pair: 1}}, api.OK},
		{"the last of the need", [][]int{{0, 3, 8}}, 1, []api.Change{{Pair: 8}}, api.OK},
		{"no steps", nil, 1, nil, api.OK},
		{"nothing is mounted", alternating(), 2, nil, api.ErrStep},
		{"nothing at the first step", steps(2), 1, []api.Change{{Step: 1}}, api.ErrStep},
		{"nothing for the second step", alternating(), 2, []api.Change{{}}, api.ErrStep},
		{"nothing for the last step", alternating(), 1, []api.Change{{}, {Step: 1, Pair: 1}, {Step: 2}}, api.ErrStep},
		{"mounted in its place", alternating(), 2, []api.Change{{}, {Step: 1, Pair: 1}}, api.ErrStep},
		{"mounted too late", alternating(), 2, []api.Change{{}, {Step: 2, Station: 1, Pair: 1}}, api.ErrStep},
		{"not in the need", chain(), 1, []api.Change{{Pair: 2}}, api.ErrStep},
		{"no steps, a change", nil, 1, []api.Change{{}}, api.ErrOrder},
		{"the second station of one", steps(1), 1, []api.Change{{Station: 1}}, api.ErrOrder},
	} {
		if e := setup.Check(x.needs, x.stations, x.l); e != x.want {
			t.Error(x.name, e)
		}
	}
	for _, l := range outOfOrder() {
		if e := setup.Check(alternating(), 2, l); e != api.ErrOrder {
			t.Error(l[:min(len(l), 5)], e)
		}
	}
}

// TestCheckByMounted holds Check against the pairs that Mounted returns.
func TestCheckByMounted(t *testing.T) {
	r := rand.New(rand.NewSource(51))
	accepted := 0
	for range 3000 {
		needs, stations := randomNeeds(r, 1+r.Intn(5), 4), 1+r.Intn(3)
		var l []api.Change
		for step := range needs {
			for station := range stations {
				if step == 0 || r.Intn(3) == 0 {
					l = append(l, api.Change{Step: step, Station: station, Pair: r.Intn(4)})
				}
			}
		}
		want := api.OK
		for step, need := range needs {
			mounted, e := setup.Mounted(needs, stations, l, step)
			if e != api.OK || len(mounted) != stations {
				t.Fatal(needs, l, step, mounted, e)
			}
			if !slices.ContainsFunc(mounted, func(pair int) bool { return slices.Contains(need, pair) }) {
				want = api.ErrStep
			}
		}
		e := setup.Check(needs, stations, l)
		if e != want {
			t.Error(needs, stations, l, e)
		}
		if e == api.OK {
			accepted++
		}
	}
	if accepted < 300 || accepted > 2700 {
		t.Error("one-sided", accepted)
	}
}
