package geom

import "sheetmetal/api"

// ValidRect reports whether W and H are above 0, and all corners have coordinates from -MaxTicks to MaxTicks.
func ValidRect(r api.Rect) bool {
	return validSpan(r.X, r.W) && validSpan(r.Y, r.H)
}

// Overlap reports whether the interiors have a common point.
func Overlap(a, b api.Rect) bool {
	return ValidRect(a) && ValidRect(b) && spansOverlap(a.X, a.W, b.X, b.W) && spansOverlap(a.Y, a.H, b.Y, b.H)
}

// Inside reports whether every point of a is a point of b.
func Inside(a, b api.Rect) bool {
	return ValidRect(a) && ValidRect(b) && spanInside(a.X, a.W, b.X, b.W) && spanInside(a.Y, a.H, b.Y, b.H)
}

// Distance returns the larger one of the gaps in X and in Y.
func Distance(a, b api.Rect) int {
	if !ValidRect(a) || !ValidRect(b) {
		return 0
	}
	return max(spanGap(a.X, a.W, b.X, b.W), spanGap(a.Y, a.H, b.Y, b.H))
}

// validSpan reports whether the interval from start to start + length has a length and lies within MaxTicks.
func validSpan(start, length int) bool {
	// The end is not computed before start is known to be small: the sum of any two numbers may wrap.
	return length > 0 && within(start, api.MaxTicks) && length <= api.MaxTicks-start
}

func spansOverlap(a, aLength, b, bLength int) bool {
	return a < b+bLength && b < a+aLength
}

func spanInside(a, aLength, b, bLength int) bool {
	return b <= a && a+aLength <= b+bLength
}

func spanGap(a, aLength, b, bLength int) int {
	return max(0, b-(a+aLength), a-(b+bLength))
}
