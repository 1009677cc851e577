package geom

import (
	"cmp"

	"sheetmetal/api"
)

// SignRoot returns -1, 0 or 1, the sign of r.
func SignRoot(r api.Root) (int, api.Errno) {
	if !rootWithin(r, api.MaxRoot) {
		return 0, api.ErrLarge
	}
	return sign(r), api.OK
}

// CompareRoot returns the sign of a minus b.
func CompareRoot(a, b api.Root) (int, api.Errno) {
	if !rootWithin(a, api.MaxRoot) || !rootWithin(b, api.MaxRoot) {
		return 0, api.ErrLarge
	}
	return sign(minus(a, b)), api.OK
}

// Multiply returns the product of a and b.
func Multiply(a, b api.Root) (api.Root, api.Errno) {
	if !rootWithin(a, api.MaxFactor) || !rootWithin(b, api.MaxFactor) {
		return api.Root{}, api.ErrLarge
	}
	return times(a, b), api.OK
}

// rootWithin reports whether both numbers of r are from -limit to limit.
func rootWithin(r api.Root, limit int) bool {
	return within(r.A, limit) && within(r.B, limit)
}

// sign is SignRoot without its limit. Its squares fit into an int while A and B are at most 2 to the power of 30; the largest ones come from orient and CompareRoot, with 29.
func sign(r api.Root) int {
	// The part with the larger square decides. The squares are equal only if both are 0, because the square root of 3 is irrational.
	if r.A*r.A > 3*r.B*r.B {
		return cmp.Compare(r.A, 0)
	}
	return cmp.Compare(r.B, 0)
}

func plus(a, b api.Root) api.Root {
	return api.Root{A: a.A + b.A, B: a.B + b.B}
}

func minus(a, b api.Root) api.Root {
	return api.Root{A: a.A - b.A, B: a.B - b.B}
}

func times(a, b api.Root) api.Root {
	return api.Root{A: a.A*b.A + 3*a.B*b.B, B: a.A*b.B + a.B*b.A}
}
