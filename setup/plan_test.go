package setup_test

import (
	"math/rand"
	"slices"
	"testing"

	"sheetmetal/api"
	"sheetmetal/setup"
)

// expectLeast checks Least and Plan.
func expectLeast(t *testing.T, needs [][]int, stations, want int) {
	t.Helper()
	if n, e := setup.Least(needs, stations); n != want || e != api.OK {
		t.Error("Least", needs, stations, n, e)
	}
	l, e := setup.Plan(needs, stations)
	if len(l) != want || e != api.OK {
		t.Error("Plan", needs, stations, l, e)
	}
	if e := setup.Check(needs, stations, l); e != api.OK {
		t.Error("Check", needs, stations, l, e)
	}
	if again, _ := setup.Plan(needs, stations); !slices.Equal(again, l) {
		t.Error("another plan", needs, stations, l, again)
	}
}

func TestLeast(t *testing.T) {
	var turning, all [][]int
	for i := range 24 {
		turning = append(turning, []int{i % 4})
		all = append(all, []int{0, 1, 2, 3, 4, 5, 6, 7, 8})
	}
	for _, x := range []struct {
		needs    [][]int
		stations int
		want     int
	}{
		{nil, 1, 0},
		{nil, 3, 0},
		{steps(1), 1, 1},
		{steps(24), 1, 1},
		{all, 1, 1},
		{alternating(), 1, 4},
		{alternating(), 2, 2},
		{alternating(), 3, 2},
		{chain(), 1, 2},
		{chain(), 2, 2},
		{[][]int{{0, 1}, {1, 2}, {1, 3}}, 1, 1},
		{[][]int{{0}, {1}, {2}, {0}}, 2, 3},
		{[][]int{{0}, {1}, {2}, {0}, {1}}, 2, 4},
		{[][]int{{0}, {1}, {2}, {0}, {1}}, 3, 3},
		{[][]int{{0}, {1, 2}, {0}, {2}, {0}}, 2, 2},
		{turning, 1, 24},
		{turning, 2, 17},
		{turning, 3, 10},
		{[][]int{{8}, {7}, {6}, {5}, {4}, {3}, {2}, {1}, {0}}, 3, 9},
	} {
		expectLeast(t, x.needs, x.stations, x.want)
	}
}

// exhaustive returns the smallest number of changes among all ways of mounting pairs below count before each step, also several of them or such as are not needed.
func exhaustive(needs [][]int, stations, count int) int {
	states := 1
	for range stations {
		states *= count + 1
	}
	// A state has a digit for each station: 0 if it is empty, and otherwise the pair plus 1.
	least := map[int]int{0: 0}
	for _, need := range needs {
		next := map[int]int{}
		for before, n := range least {
			for after := range states {
				changes, served := compare(before, after, stations, count+1, need)
				if !served {
					continue
				}
				if old, known := next[after]; !known || n+changes < old {
					next[after] = n + changes
				}
			}
		}
		least = next
	}
	best := len(needs)
	for _, n := range least {
		best = min(best, n)
	}
	return best
}

// compare returns how many changes lead from a state to another one, and whether there is a way and the other one serves a need.
func compare(before, after, stations, base int, need []int) (int, bool) {
	changes, served := 0, false
	for range stations {
		old, pair := before%base-1, after%base-1
		if old != pair {
			changes++
			if pair < 0 {
				return 0, false
			}
		}
		served = served || slices.Contains(need, pair)
		before, after = before/base, after/base
	}
	return changes, served
}

func TestLeastIsLeast(t *testing.T) {
	r := rand.New(rand.NewSource(54))
	for range 400 {
		count := 2 + r.Intn(3)
		needs := scarceNeeds(r, r.Intn(9), count)
		for stations := 1; stations <= 2; stations++ {
			expectLeast(t, needs, stations, exhaustive(needs, stations, count))
		}
	}
	for range 40 {
		needs := randomNeeds(r, 10, 5)
		expectLeast(t, needs, 2, exhaustive(needs, 2, 5))
		needs = scarceNeeds(r, 7, 4)
		expectLeast(t, needs, 3, exhaustive(needs, 3, 4))
	}
	var turning [][]int
	for i := range 24 {
		turning = append(turning, []int{i % 4})
	}
	for stations := 1; stations <= 3; stations++ {
		expectLeast(t, turning, stations, exhaustive(turning, stations, 4))
	}
	for range 5 {
		needs := scarceNeeds(r, 24, 9)
		expectLeast(t, needs, 1, exhaustive(needs, 1, 9))
		expectLeast(t, needs, 2, exhaustive(needs, 2, 9))
	}
}

// TestLeastByStations holds that more stations never take more changes, and that no list takes more changes than there are steps.
func TestLeastByStations(t *testing.T) {
	r := rand.New(rand.NewSource(55))
	for range 100 {
		needs := scarceNeeds(r, 24, 9)
		last := len(needs)
		for stations := 1; stations <= 3; stations++ {
			n, e := setup.Least(needs, stations)
			if e != api.OK || n > last || n < 1 {
				t.Error(needs, stations, n, e)
			}
			expectLeast(t, needs, stations, n)
			last = n
		}
	}
}
