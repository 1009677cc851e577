package setup

import "sheetmetal/api"

// outlook has, for each set of mounted pairs, the smallest number of changes that are still to be made.
type outlook [allPairs + 1]int

// Least returns the smallest number of changes with which all steps can be made.
func Least(needs [][]int, stations int) (int, api.Errno) {
	if e := check(needs, stations); e != api.OK {
		return 0, e
	}
	return outlooks(setsOf(needs), stations)[0][0], api.OK
}

// Plan returns a list of as few changes as possible with which all steps can be made.
func Plan(needs [][]int, stations int) ([]api.Change, api.Errno) {
	if e := check(needs, stations); e != api.OK {
		return nil, e
	}
	sets := setsOf(needs)
	left := outlooks(sets, stations)
	mounted := make([]pairSet, stations)
	var l []api.Change
	for step, need := range sets {
		if union(mounted).meets(need) {
			continue
		}
		c := bestChange(mounted, needs[step], &left[step+1])
		c.Step = step
		mounted[c.Station] = single(c.Pair)
		l = append(l, c)
	}
	return l, api.OK
}

// outlooks returns the outlook before each step, and the one after the last step.
func outlooks(needs []pairSet, stations int) []outlook {
	left := make([]outlook, len(needs)+1)
	for step := len(needs) - 1; step >= 0; step-- {
		for mounted := range allPairs + 1 {
			if mounted.size() <= stations {
				left[step][mounted] = left[step+1].before(needs[step], mounted, stations)
			}
		}
	}
	return left
}

// before returns the number of changes to be made from a step on, where o is the outlook after it.
func (o *outlook) before(need, mounted pairSet, stations int) int {
	// A change that is not needed at this step can wait for the step that needs it.
	if mounted.meets(need) {
		return o[mounted]
	}
	least := api.MaxSteps
	for _, kept := range mounted.kept(stations) {
		for pair := range api.MaxPairs {
			if need.has(pair) {
				least = min(least, o[kept|single(pair)])
			}
		}
	}
	return least + 1
}

// kept returns the sets of mounted pairs that can be kept while a further pair is mounted.
func (s pairSet) kept(stations int) []pairSet {
	if s.size() < stations {
		return []pairSet{s}
	}
	var l []pairSet
	for pair := range api.MaxPairs {
		if s.has(pair) {
			l = append(l, s&^single(pair))
		}
	}
	return l
}

// bestChange returns the first change to a pair of need after which the fewest changes are left, by the outlook after the step.
func bestChange(mounted []pairSet, need []int, o *outlook) api.Change {
	var best api.Change
	least := api.MaxSteps + 1
	for station := range mounted {
		kept := union(mounted[:station]) | union(mounted[station+1:])
		for _, pair := range need {
			if n := o[kept|single(pair)]; n < least {
				best, least = api.Change{Station: station, Pair: pair}, n
			}
		}
	}
	return best
}

// union returns the set of the pairs of all sets of l.
func union(l []pairSet) pairSet {
	var all pairSet
	for _, s := range l {
		all |= s
	}
	return all
}
