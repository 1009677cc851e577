package setup

import "sheetmetal/api"

// Serves reports whether a set of pairs has a pair of the need of each step of a window.
func Serves(needs [][]int, w api.Window, pairs []int) (bool, api.Errno) {
	if e := Validate(needs); e != api.OK {
		return false, e
	}
	if !validWindow(w, len(needs)) || !isSetOfPairs(pairs) {
		return false, api.ErrArg
	}
	return setOf(pairs).serves(setsOf(needs), w), api.OK
}

// Blocked reports whether no set of pairs for which there are stations serves a window.
func Blocked(needs [][]int, stations int, w api.Window) (bool, api.Errno) {
	if e := check(needs, stations); e != api.OK {
		return false, e
	}
	if !validWindow(w, len(needs)) {
		return false, api.ErrArg
	}
	return blocked(setsOf(needs), stations, w), api.OK
}

// CheckBound returns the number of changes that cannot be fallen short of, as the windows prove.
func CheckBound(needs [][]int, stations int, l []api.Window) (int, api.Errno) {
	if e := check(needs, stations); e != api.OK {
		return 0, e
	}
	for _, w := range l {
		if !validWindow(w, len(needs)) {
			return 0, api.ErrArg
		}
	}
	for i, w := range l {
		if i > 0 && w.From < l[i-1].To {
			return 0, api.ErrOrder
		}
	}
	sets := setsOf(needs)
	for _, w := range l {
		if !blocked(sets, stations, w) {
			return 0, api.ErrStep
		}
	}
	if len(needs) == 0 {
		return 0, api.OK
	}
	// Before the first step something must be mounted, and within each window something must be changed.
	return len(l) + 1, api.OK
}

// Bound returns windows that prove a lower bound of the number of changes.
func Bound(needs [][]int, stations int) ([]api.Window, api.Errno) {
	if e := check(needs, stations); e != api.OK {
		return nil, e
	}
	sets := setsOf(needs)
	var l []api.Window
	w := api.Window{}
	for w.To < len(sets) {
		if !blocked(sets, stations, w) {
			w.To++
			continue
		}
		l = append(l, w)
		w.From = w.To
	}
	return l, api.OK
}

// validWindow reports whether a window is valid for a number of steps.
func validWindow(w api.Window, steps int) bool {
	return within(w.From, 0, w.To) && w.To < steps
}

// serves reports whether s has a pair of each need of a window.
func (s pairSet) serves(needs []pairSet, w api.Window) bool {
	for _, need := range needs[w.From : w.To+1] {
		if !s.meets(need) {
			return false
		}
	}
	return true
}

// blocked reports whether no set of at most stations pairs serves a window.
func blocked(needs []pairSet, stations int, w api.Window) bool {
	for s := range allPairs + 1 {
		if s.size() <= stations && s.serves(needs, w) {
			return false
		}
	}
	return true
}
