package setup

import (
	"slices"

	"sheetmetal/api"
)

// Join returns the needs of the jobs, one job after another in an order.
func Join(jobs [][][]int, order []int) ([][]int, api.Errno) {
	if e := validateJobs(jobs); e != api.OK {
		return nil, e
	}
	if !isPermutation(order, len(jobs)) {
		return nil, api.ErrArg
	}
	if countSteps(jobs) > api.MaxSteps {
		return nil, api.ErrLarge
	}
	var needs [][]int
	for _, i := range order {
		for _, need := range jobs[i] {
			needs = append(needs, slices.Clone(need))
		}
	}
	return needs, api.OK
}

// Best returns the first order of the jobs that takes the smallest number of changes, and this number.
func Best(jobs [][][]int, stations int) ([]int, int, api.Errno) {
	if e := validateJobs(jobs); e != api.OK {
		return nil, 0, e
	}
	if !validStations(stations) {
		return nil, 0, api.ErrArg
	}
	if countSteps(jobs) > api.MaxSteps {
		return nil, 0, api.ErrLarge
	}
	var best []int
	least := api.MaxSteps + 1
	permute(len(jobs), func(order []int) {
		needs, _ := Join(jobs, order) // the jobs are valid, and so is each order
		if n, _ := Least(needs, stations); n < least {
			best, least = slices.Clone(order), n
		}
	})
	return best, least, api.OK
}

// validateJobs returns the error of the number of jobs, or of the first job that has one.
func validateJobs(jobs [][][]int) api.Errno {
	if len(jobs) > api.MaxJobs {
		return api.ErrLarge
	}
	for _, needs := range jobs {
		if e := Validate(needs); e != api.OK {
			return e
		}
	}
	return api.OK
}

// countSteps returns the number of steps of all jobs together.
func countSteps(jobs [][][]int) int {
	n := 0
	for _, needs := range jobs {
		n += len(needs)
	}
	return n
}

// isPermutation reports whether l has each number from 0 to n - 1 once, and nothing else.
func isPermutation(l []int, n int) bool {
	if len(l) != n {
		return false
	}
	for i := range n {
		if !slices.Contains(l, i) {
			return false
		}
	}
	return true
}

// permute calls visit with each permutation of the numbers from 0 to n - 1, in ascending order. The slice is reused after the call.
func permute(n int, visit func([]int)) {
	order := make([]int, 0, n)
	var extend func()
	extend = func() {
		if len(order) == n {
			visit(order)
			return
		}
		for i := range n {
			if slices.Contains(order, i) {
				continue
			}
			order = append(order, i)
			extend()
			order = order[:len(order)-1]
		}
	}
	extend()
}
