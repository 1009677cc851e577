package setup_test

import (
	"math"
	"math/rand"
	"reflect"
	"slices"
	"testing"

	"sheetmetal/api"
	"sheetmetal/setup"
)

// wild are numbers that are out of the range of any field.
var wild = []int{math.MinInt, math.MinInt + 1, -1 << 32, -1001, 1001, 1 << 32, 1<<32 + 1, 1 << 62, math.MaxInt - 1, math.MaxInt}

// steps returns n steps that need the pair 0.
func steps(n int) [][]int {
	needs := make([][]int, n)
	for i := range needs {
		needs[i] = []int{0}
	}
	return needs
}

// alternating returns the needs of the chapter's first example.
func alternating() [][]int {
	return [][]int{{0}, {1}, {0}, {1}}
}

// chain returns the needs of the chapter's second example.
func chain() [][]int {
	return [][]int{{0, 1}, {1, 2}, {2, 3}}
}

// wrongNeeds returns needs for which Validate returns an error, by their error.
func wrongNeeds() map[api.Errno][][][]int {
	l := [][][]int{{{}}, {nil}, {{0}, {}}, {{9}}, {{0, 9}}, {{-1}}, {{-1, 0}}, {{1, 0}}, {{0, 0}}, {{0, 2, 1}}, {{0}, {1}, {3, 3}},
		append(steps(23), nil), {{0, 1, 2, 3, 4, 5, 6, 7, 8, 9}}}
	for _, n := range wild {
		l = append(l, [][]int{{n}}, [][]int{{0}, {0, n}})
	}
	return map[api.Errno][][][]int{
		api.ErrArg:   l,
		api.ErrLarge: {steps(25), make([][]int, 25), append(steps(24), []int{9}), steps(100000)},
	}
}

// randomNeeds returns the needs of n steps with numbers of pairs below count.
func randomNeeds(r *rand.Rand, n, count int) [][]int {
	needs := make([][]int, 0, n)
	for range n {
		needs = append(needs, elements(1+r.Intn(1<<count-1)))
	}
	return needs
}

// scarceNeeds returns the needs of n steps, of one or two numbers of pairs below count.
func scarceNeeds(r *rand.Rand, n, count int) [][]int {
	needs := make([][]int, 0, n)
	for range n {
		needs = append(needs, elements(1<<r.Intn(count)|1<<r.Intn(count)))
	}
	return needs
}

// elements returns the set whose numbers are the bits of n.
func elements(n int) []int {
	var l []int
	for i := range 9 {
		if n&(1<<i) != 0 {
			l = append(l, i)
		}
	}
	return l
}

func TestValidate(t *testing.T) {
	for _, needs := range [][][]int{nil, {}, {{0}}, {{8}}, {{0, 8}}, {{0, 1, 2, 3, 4, 5, 6, 7, 8}}, {{8}, {0}, {8}}, alternating(), chain(), steps(24)} {
		if e := setup.Validate(needs); e != api.OK {
			t.Error(needs, e)
		}
	}
	for want, l := range wrongNeeds() {
		for _, needs := range l {
			if e := setup.Validate(needs); e != want {
				t.Error(needs, e)
			}
		}
	}
}

// TestErrorsOfNeeds holds that the error of the needs comes before that of the stations, and both before all others.
func TestErrorsOfNeeds(t *testing.T) {
	stationsOf := append([]int{0, -1, 4, 1, 3}, wild...)
	for want, l := range wrongNeeds() {
		for _, needs := range l {
			for _, stations := range stationsOf {
				expectRefusal(t, needs, stations, want)
			}
			expectNoService(t, needs, want)
		}
	}
	for _, stations := range append([]int{0, -1, 4}, wild...) {
		expectRefusal(t, alternating(), stations, api.ErrArg)
		expectRefusal(t, nil, stations, api.ErrArg)
	}
}

// expectRefusal calls all functions that take needs and stations, with other arguments that are right or wrong.
func expectRefusal(t *testing.T, needs [][]int, stations int, want api.Errno) {
	t.Helper()
	for _, l := range [][]api.Change{nil, {{}}, {{Step: -1}}, {{}, {}}} {
		if got, e := setup.Mounted(needs, stations, l, 0); len(got) != 0 || e != want {
			t.Error("Mounted", needs, stations, l, got, e)
		}
		if e := setup.Check(needs, stations, l); e != want {
			t.Error("Check", needs, stations, l, e)
		}
	}
	if n, e := setup.Least(needs, stations); n != 0 || e != want {
		t.Error("Least", needs, stations, n, e)
	}
	if l, e := setup.Plan(needs, stations); len(l) != 0 || e != want {
		t.Error("Plan", needs, stations, l, e)
	}
	if l, e := setup.Bound(needs, stations); len(l) != 0 || e != want {
		t.Error("Bound", needs, stations, l, e)
	}
	for _, w := range []api.Window{{}, {From: 0, To: 1}, {From: 1}, {From: -1, To: math.MaxInt}} {
		if got, e := setup.Blocked(needs, stations, w); got || e != want {
			t.Error("Blocked", needs, stations, w, got, e)
		}
		for _, l := range [][]api.Window{nil, {w}, {{From: 0, To: 3}, w}} {
			if n, e := setup.CheckBound(needs, stations, l); n != 0 || e != want {
				t.Error("CheckBound", needs, stations, l, n, e)
			}
		}
	}
}

// expectNoService calls Serves with windows and pairs that are right or wrong.
func expectNoService(t *testing.T, needs [][]int, want api.Errno) {
	t.Helper()
	for _, w := range []api.Window{{}, {From: 1}} {
		for _, pairs := range [][]int{nil, {0}, {1, 0}} {
			if got, e := setup.Serves(needs, w, pairs); got || e != want {
				t.Error("Serves", needs, w, pairs, got, e)
			}
		}
	}
}

// TestArgumentsStay holds that no function changes its arguments, and that a call with equal arguments returns the same.
func TestArgumentsStay(t *testing.T) {
	needs, l, windows, pairs := chain(), []api.Change{{Pair: 1}, {Step: 2, Pair: 3}}, []api.Window{{From: 0, To: 2}}, []int{1, 2}
	jobs, order := [][][]int{{{1}}, {{0}}, {{1, 2}}}, []int{2, 0, 1}
	call := func() []any {
		mounted, _ := setup.Mounted(needs, 1, l, 2)
		plan, _ := setup.Plan(needs, 1)
		served, _ := setup.Serves(needs, windows[0], pairs)
		bound, _ := setup.Bound(needs, 1)
		n, _ := setup.CheckBound(needs, 1, windows)
		joined, _ := setup.Join(jobs, order)
		best, least, _ := setup.Best(jobs, 1)
		return []any{mounted, plan, served, bound, n, joined, best, least, setup.Check(needs, 1, l)}
	}
	if first, second := call(), call(); !reflect.DeepEqual(first, second) {
		t.Error(first, second)
	}
	if !reflect.DeepEqual(needs, chain()) || !slices.Equal(l, []api.Change{{Pair: 1}, {Step: 2, Pair: 3}}) || !slices.Equal(pairs, []int{1, 2}) ||
		!slices.Equal(windows, []api.Window{{From: 0, To: 2}}) || !reflect.DeepEqual(jobs, [][][]int{{{1}}, {{0}}, {{1, 2}}}) || !slices.Equal(order, []int{2, 0, 1}) {
		t.Error(needs, l, pairs, windows, jobs, order)
	}
}
