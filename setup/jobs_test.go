package setup_test

import (
	"math/rand"
	"reflect"
	"slices"
	"testing"

	"sheetmetal/api"
	"sheetmetal/setup"
)

// threeJobs returns jobs of which the first and the last need the same pair.
func threeJobs() [][][]int {
	return [][][]int{{{0}}, {{1}}, {{0}}}
}

func TestJoin(t *testing.T) {
	uneven := [][][]int{{{0, 1}, {2}}, {}, {{3, 8}}, nil}
	for _, x := range []struct {
		jobs  [][][]int
		order []int
		want  [][]int
	}{
		{nil, nil, nil},
		{[][][]int{{}}, []int{0}, nil},
		{[][][]int{chain()}, []int{0}, chain()},
		{threeJobs(), []int{0, 1, 2}, [][]int{{0}, {1}, {0}}},
		{threeJobs(), []int{2, 0, 1}, [][]int{{0}, {0}, {1}}},
		{[][][]int{{{0}}, {{1}}, {{2}}}, []int{1, 2, 0}, [][]int{{1}, {2}, {0}}},
		{uneven, []int{0, 1, 2, 3}, [][]int{{0, 1}, {2}, {3, 8}}},
		{uneven, []int{3, 2, 1, 0}, [][]int{{3, 8}, {0, 1}, {2}}},
		{[][][]int{steps(12), steps(12)}, []int{1, 0}, steps(24)},
		{[][][]int{steps(24), nil}, []int{1, 0}, steps(24)},
	} {
		got, e := setup.Join(x.jobs, x.order)
		if e != api.OK || len(got) != len(x.want) || len(got) > 0 && !reflect.DeepEqual(got, x.want) {
			t.Error(x.jobs, x.order, got, e)
		}
	}
}

func TestJoinSharesNothing(t *testing.T) {
	jobs, order := [][][]int{{{0, 1}}, {{2}}}, []int{1, 0}
	got, _ := setup.Join(jobs, order)
	got[0][0], got[1][1] = 7, 8
	if !reflect.DeepEqual(jobs, [][][]int{{{0, 1}}, {{2}}}) || !slices.Equal(order, []int{1, 0}) {
		t.Error(jobs, order)
	}
	same := []int{3}
	got, _ = setup.Join([][][]int{{same, same}}, []int{0})
	got[0][0] = 4
	if same[0] != 3 || got[1][0] != 3 {
		t.Error(same, got)
	}
}

// noPermutations returns orders that are none of three jobs.
func noPermutations() [][]int {
	l := [][]int{nil, {0}, {0, 1}, {0, 1, 1}, {0, 0, 0}, {0, 1, 3}, {-1, 0, 1}, {1, 2, 3}, {0, 1, 2, 3}, {0, 1, 2, 2}, make([]int, 100000)}
	for _, n := range wild {
		l = append(l, []int{0, 1, n}, []int{n, 1, 2})
	}
	return l
}

func TestErrorsOfJobs(t *testing.T) {
	for _, x := range []struct {
		name string
		jobs [][][]int
		want api.Errno
	}{
		{"five jobs", make([][][]int, 5), api.ErrLarge},
		{"five jobs, a wrong need", [][][]int{{{9}}, nil, nil, nil, nil}, api.ErrLarge},
		{"many jobs", make([][][]int, 100000), api.ErrLarge},
		{"an empty need", [][][]int{{{0}}, {{}}}, api.ErrArg},
		{"no set", [][][]int{{{1, 0}}}, api.ErrArg},
		{"no pair", [][][]int{nil, nil, nil, {{0}, {9}}}, api.ErrArg},
		{"too many steps", [][][]int{steps(25)}, api.ErrLarge},
		{"too many steps, and no pair in them", [][][]int{append(steps(24), []int{9})}, api.ErrLarge},
		{"too many steps after no pair", [][][]int{{{9}}, steps(25)}, api.ErrArg},
		{"no pair after too many steps", [][][]int{steps(25), {{9}}}, api.ErrLarge},
		{"no pair in 26 steps", [][][]int{steps(13), append(steps(12), []int{9})}, api.ErrArg},
	} {
		for _, order := range append(noPermutations(), []int{0}, []int{1, 0}, []int{0, 1, 2, 3, 4}) {
			if got, e := setup.Join(x.jobs, order); len(got) != 0 || e != x.want {
				t.Error("Join", x.name, got, e)
			}
		}
		for _, stations := range append([]int{0, 1, 3, 4}, wild...) {
			if order, n, e := setup.Best(x.jobs, stations); len(order) != 0 || n != 0 || e != x.want {
				t.Error("Best", x.name, stations, order, n, e)
			}
		}
	}
}

func TestErrorsOfJoin(t *testing.T) {
	large := [][][]int{steps(9), steps(9), steps(9)}
	for _, order := range noPermutations() {
		for _, jobs := range [][][][]int{threeJobs(), large} {
			if got, e := setup.Join(jobs, order); len(got) != 0 || e != api.ErrArg {
				t.Error(order[:min(len(order), 5)], got, e)
			}
		}
	}
	if got, e := setup.Join(nil, []int{0}); len(got) != 0 || e != api.ErrArg {
		t.Error("no jobs", got, e)
	}
	if got, e := setup.Join(large, []int{2, 1, 0}); len(got) != 0 || e != api.ErrLarge {
		t.Error("27 steps", got, e)
	}
	if got, e := setup.Join([][][]int{steps(24), steps(1)}, []int{0, 1}); len(got) != 0 || e != api.ErrLarge {
		t.Error("25 steps", got, e)
	}
}

func TestErrorsOfBest(t *testing.T) {
	large := [][][]int{steps(24), steps(1)}
	for _, stations := range append([]int{0, -1, 4}, wild...) {
		for _, jobs := range [][][][]int{nil, threeJobs(), large} {
			if order, n, e := setup.Best(jobs, stations); len(order) != 0 || n != 0 || e != api.ErrArg {
				t.Error(stations, order, n, e)
			}
		}
	}
	if order, n, e := setup.Best(large, 1); len(order) != 0 || n != 0 || e != api.ErrLarge {
		t.Error("25 steps", order, n, e)
	}
}

func TestBest(t *testing.T) {
	for _, x := range []struct {
		jobs     [][][]int
		stations int
		order    []int
		n        int
	}{
		{nil, 1, nil, 0},
		{[][][]int{{}}, 1, []int{0}, 0},
		{make([][][]int, 4), 3, []int{0, 1, 2, 3}, 0},
		{[][][]int{alternating()}, 1, []int{0}, 4},
		{threeJobs(), 1, []int{0, 2, 1}, 2},
		{threeJobs(), 2, []int{0, 1, 2}, 2},
		{[][][]int{{{0}}, {{1}}, {{1}, {0}}}, 1, []int{1, 2, 0}, 2},
		{[][][]int{{{0}}, {{1}}, {{0}}, {{1}}}, 1, []int{0, 2, 1, 3}, 2},
		{[][][]int{{{3}}, {{2}, {3}}, {{1}, {2}}, {{0}, {1}}}, 1, []int{3, 2, 1, 0}, 4},
		{[][][]int{steps(12), steps(12)}, 1, []int{0, 1}, 1},
		{[][][]int{slices.Repeat([][]int{{0}, {1}}, 12)}, 1, []int{0}, 24},
	} {
		order, n, e := setup.Best(x.jobs, x.stations)
		if e != api.OK || n != x.n || !slices.Equal(order, x.order) {
			t.Error(x.jobs, x.stations, order, n, e)
		}
	}
}

// orders returns all permutations of the numbers below n, in ascending order: of the numbers with n digits, those that have each digit once.
func orders(n int) [][]int {
	count := 1
	for range n {
		count *= n
	}
	var l [][]int
	for number := range count {
		var order []int
		for rest := number; len(order) < n; rest /= n {
			order = append([]int{rest % n}, order...)
		}
		if sorted := slices.Compact(slices.Sorted(slices.Values(order))); len(sorted) == n {
			l = append(l, order)
		}
	}
	return l
}

func TestBestIsFirstOfTheBest(t *testing.T) {
	r := rand.New(rand.NewSource(59))
	notFirst := 0
	for range 200 {
		var jobs [][][]int
		for range 1 + r.Intn(4) {
			jobs = append(jobs, scarceNeeds(r, r.Intn(5), 5))
		}
		stations := 1 + r.Intn(3)
		var want []int
		least := 25
		for _, order := range orders(len(jobs)) {
			needs, e := setup.Join(jobs, order)
			if e != api.OK {
				t.Fatal(jobs, order, e)
			}
			if n, _ := setup.Least(needs, stations); n < least {
				want, least = order, n
			}
		}
		order, n, e := setup.Best(jobs, stations)
		if e != api.OK || n != least || !slices.Equal(order, want) {
			t.Error(jobs, stations, order, n, e)
		}
		if !slices.IsSorted(order) {
			notFirst++
		}
	}
	if notFirst < 20 {
		t.Error("too few orders differ from the given one", notFirst)
	}
}
