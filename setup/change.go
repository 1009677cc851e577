package setup

import (
	"slices"

	"sheetmetal/api"
)

// none stands for the pair of an empty station.
const none = -1

// Mounted returns the pair on each station at a step, after the changes before it.
func Mounted(needs [][]int, stations int, l []api.Change, step int) ([]int, api.Errno) {
	if e := check(needs, stations); e != api.OK {
		return nil, e
	}
	if !inOrder(l, len(needs), stations) {
		return nil, api.ErrOrder
	}
	if !within(step, 0, len(needs)-1) {
		return nil, api.ErrArg
	}
	mounted := emptyStations(stations)
	for _, c := range l {
		if c.Step <= step {
			mounted[c.Station] = c.Pair
		}
	}
	return mounted, api.OK
}

// Check returns the error of a list of changes: at each step, a pair of its need must be mounted.
func Check(needs [][]int, stations int, l []api.Change) api.Errno {
	if e := check(needs, stations); e != api.OK {
		return e
	}
	if !inOrder(l, len(needs), stations) {
		return api.ErrOrder
	}
	mounted := emptyStations(stations)
steps:
	for step, need := range needs {
		for len(l) > 0 && l[0].Step == step {
			mounted[l[0].Station] = l[0].Pair
			l = l[1:]
		}
		for _, pair := range mounted {
			if slices.Contains(need, pair) {
				continue steps
			}
		}
		return api.ErrStep
	}
	return api.OK
}

// inOrder reports whether a list of changes is in order, for a number of steps and of stations.
func inOrder(l []api.Change, steps, stations int) bool {
	for i, c := range l {
		if !within(c.Step, 0, steps-1) || !within(c.Station, 0, stations-1) || !isPair(c.Pair) {
			return false
		}
		if i > 0 && l[i-1].Step > c.Step {
			return false
		}
		// The steps do not descend, so what has the same step stands right before.
		for k := i - 1; k >= 0 && l[k].Step == c.Step; k-- {
			if l[k].Station == c.Station {
				return false
			}
		}
	}
	return true
}

// emptyStations returns the pairs on a number of empty stations.
func emptyStations(n int) []int {
	return slices.Repeat([]int{none}, n)
}
