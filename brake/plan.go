package brake

import (
	"maps"
	"slices"

	"sheetmetal/api"
)

// Steps returns all steps that are feasible with a mask.
func Steps(p api.Part, m api.Machine, opening, mask int) ([]api.Step, api.Errno) {
	j := job{p: p, m: m, opening: opening}
	if e := j.check(mask); e != api.OK {
		return nil, e
	}
	var l []api.Step
	for _, flange := range j.left(mask) {
		l = slices.AppendSeq(l, j.feasible(mask, flange))
	}
	return l, api.OK
}

// CheckSequence returns the error of a sequence of bends, and of a wrong step also its index.
func CheckSequence(p api.Part, m api.Machine, opening, from int, l []api.Step) (int, api.Errno) {
	j := job{p: p, m: m, opening: opening}
	if e := j.check(from); e != api.OK {
		return 0, e
	}
	mask := from
	for i, s := range l {
		if result, e := Examine(p, m, opening, mask, s); e != api.OK || result != Feasible {
			return i, api.ErrStep
		}
		mask = with(mask, s.Flange)
	}
	if mask != fullMask(p) {
		return 0, api.ErrOrder
	}
	return 0, api.OK
}

// Reach returns the masks that can be reached by feasible steps.
func Reach(p api.Part, m api.Machine, opening, from int) ([]int, api.Errno) {
	j := job{p: p, m: m, opening: opening}
	if e := j.check(from); e != api.OK {
		return nil, e
	}
	return slices.Sorted(maps.Keys(j.explore(from))), api.OK
}

// Plan returns a sequence of bends to the full mask, and whether there is one.
func Plan(p api.Part, m api.Machine, opening, from int) ([]api.Step, bool, api.Errno) {
	j := job{p: p, m: m, opening: opening}
	if e := j.check(from); e != api.OK {
		return nil, false, e
	}
	l, found := j.explore(from)[fullMask(p)]
	return l, found, api.OK
}

// Impossible returns a proof that there is no sequence of bends to the full mask, and whether this is so.
func Impossible(p api.Part, m api.Machine, opening, from int) ([]int, bool, api.Errno) {
	reached, e := Reach(p, m, opening, from)
	if e != api.OK || slices.Contains(reached, fullMask(p)) {
		return nil, false, e
	}
	return reached, true, api.OK
}

// CheckProof reports whether masks proves that no sequence of bends leads from a mask to the full mask.
func CheckProof(p api.Part, m api.Machine, opening, from int, masks []int) bool {
	j := job{p: p, m: m, opening: opening}
	if j.check(from) != api.OK || !isSetOfMasks(p, masks) {
		return false
	}
	return slices.Contains(masks, from) && !slices.Contains(masks, fullMask(p)) && j.isClosed(masks)
}

// explore returns the masks that can be reached, each with the steps of one way to it.
func (j job) explore(from int) map[int][]api.Step {
	reached := map[int][]api.Step{from: nil}
	// Each step adds to the mask, so no mask is reached from one that is greater.
	for mask := from; mask < fullMask(j.p); mask++ {
		way, known := reached[mask]
		if !known {
			continue
		}
		for _, flange := range j.left(mask) {
			next := with(mask, flange)
			if _, known := reached[next]; known {
				continue
			}
			if s, found := j.first(mask, flange); found {
				reached[next] = append(slices.Clone(way), s)
			}
		}
	}
	return reached
}

// isClosed reports whether no feasible step leads out of the masks.
func (j job) isClosed(masks []int) bool {
	for _, mask := range masks {
		for _, flange := range j.left(mask) {
			if slices.Contains(masks, with(mask, flange)) {
				continue
			}
			if _, found := j.first(mask, flange); found {
				return false
			}
		}
	}
	return true
}

// first returns the first feasible step of a flange that a mask does not have, and whether there is one.
func (j job) first(mask, flange int) (api.Step, bool) {
	for s := range j.feasible(mask, flange) {
		return s, true
	}
	return api.Step{}, false
}

// left returns the flanges that a mask does not have.
func (j job) left(mask int) []int {
	var l []int
	for flange := range j.p.Flanges {
		if !has(mask, flange) {
			l = append(l, flange)
		}
	}
	return l
}

// isSetOfMasks reports whether l is a set of masks of flanges of p.
func isSetOfMasks(p api.Part, l []int) bool {
	for i, mask := range l {
		if !isMask(p, mask) || i > 0 && l[i-1] >= mask {
			return false
		}
	}
	return true
}
