package setup

import (
	"sheetmetal/api"
	"sheetmetal/brake"
)

// Options returns, for each step of a sequence of bends, the pairs with which it is feasible.
func Options(p api.Part, m api.Machine, opening int, l []api.Step) ([][]int, api.Errno) {
	if _, e := brake.CheckSequence(p, m, opening, 0, l); e != api.OK {
		return nil, e
	}
	needs := make([][]int, 0, len(l))
	mask := 0
	for _, s := range l {
		needs = append(needs, options(p, m, opening, mask, s))
		mask |= 1 << s.Flange
	}
	return needs, api.OK
}

// options returns the pairs with which a step is feasible with a mask.
func options(p api.Part, m api.Machine, opening, mask int, s api.Step) []int {
	var need []int
	for pair := range len(m.Punches) * len(m.Dies) {
		s.Punch, s.Die = pair/len(m.Dies), pair%len(m.Dies)
		if result, e := brake.Examine(p, m, opening, mask, s); e == api.OK && result == brake.Feasible {
			need = append(need, pair)
		}
	}
	return need
}
