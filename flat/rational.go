package flat

import (
	"cmp"

	"sheetmetal/api"
)

// The limits of a valid rational.
const (
	maxNum = 1 << 24
	maxDen = 1 << 12
)

// Reduce returns the reduced rational with the same value.
func Reduce(r api.Rat) (api.Rat, api.Errno) {
	if !validRat(r) {
		return api.Rat{}, api.ErrArg
	}
	return reduced(r), api.OK
}

// Add returns the sum, reduced.
func Add(a, b api.Rat) (api.Rat, api.Errno) {
	if !validRat(a) || !validRat(b) {
		return api.Rat{}, api.ErrArg
	}
	sum := reduced(api.Rat{Num: a.Num*b.Den + b.Num*a.Den, Den: a.Den * b.Den})
	if !validRat(sum) {
		return api.Rat{}, api.ErrLarge
	}
	return sum, api.OK
}

// Compare returns -1, 0 or 1.
func Compare(a, b api.Rat) (int, api.Errno) {
	if !validRat(a) || !validRat(b) {
		return 0, api.ErrArg
	}
	return cmp.Compare(a.Num*b.Den, b.Num*a.Den), api.OK
}

// Ticks returns the value of r, in units, as a number of ticks.
func Ticks(r api.Rat) (int, api.Errno) {
	if !validRat(r) {
		return 0, api.ErrArg
	}
	n := r.Num * api.Scale
	if n%r.Den != 0 {
		return 0, api.ErrNone
	}
	return n / r.Den, api.OK
}

func validRat(r api.Rat) bool {
	return within(r.Num, -maxNum, maxNum) && within(r.Den, 1, maxDen)
}

// reduced is Reduce for a rational with a Den above 0, also where the numbers are too large for a valid one.
func reduced(r api.Rat) api.Rat {
	d := commonDivisor(max(r.Num, -r.Num), r.Den)
	return api.Rat{Num: r.Num / d, Den: r.Den / d}
}

// commonDivisor returns the greatest common divisor of two numbers, of which b is above 0.
func commonDivisor(a, b int) int {
	for a != 0 {
		a, b = b%a, a
	}
	return b
}
