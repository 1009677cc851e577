package flat

import (
	"cmp"
	"slices"

	"sheetmetal/api"
	"sheetmetal/part"
)

// Validate returns the error of a bend table.
func Validate(t api.BendTable) api.Errno {
	if !part.ValidName(t.Material) || !within(t.Gauge, 1, api.MaxGauge) || !within(t.Die, 1, api.MaxCoord) ||
		!within(len(t.Entries), 1, api.MaxEntries) {
		return api.ErrTable
	}
	last := 0
	for _, x := range t.Entries {
		if x.Angle <= last || !validEntry(x) {
			return api.ErrTable
		}
		last = x.Angle
	}
	return api.OK
}

// Deduction returns the bend deduction of an angle, reduced.
func Deduction(t api.BendTable, angle int) (api.Rat, api.Errno) {
	if e := Validate(t); e != api.OK {
		return api.Rat{}, e
	}
	if !validAngle(angle) {
		return api.Rat{}, api.ErrArg
	}
	i, found := slices.BinarySearchFunc(t.Entries, angle, func(x api.Entry, angle int) int {
		return cmp.Compare(x.Angle, angle)
	})
	switch {
	case found:
		return Reduce(api.Rat{Num: t.Entries[i].Num, Den: t.Entries[i].Den})
	case i == 0 || i == len(t.Entries):
		return api.Rat{}, api.ErrNone
	}
	return Reduce(between(t.Entries[i-1], t.Entries[i], angle))
}

// between returns the linear interpolation at an angle between those of two entries.
func between(below, above api.Entry, angle int) api.Rat {
	return api.Rat{
		Num: twelfths(below)*(above.Angle-angle) + twelfths(above)*(angle-below.Angle),
		Den: 12 * (above.Angle - below.Angle),
	}
}

// twelfths returns the deduction of an entry as a number of twelfths: 12 is a multiple of every valid Den.
func twelfths(x api.Entry) int {
	return x.Num * 12 / x.Den
}

func validEntry(x api.Entry) bool {
	return validAngle(x.Angle) && validDen(x.Den) && within(x.Num, 0, api.MaxDeduct*x.Den)
}

func validAngle(angle int) bool {
	switch angle {
	case 30, 60, 90, 120, 150, 180:
		return true
	}
	return false
}

func validDen(n int) bool {
	switch n {
	case 1, 2, 3, 4, 6, 12:
		return true
	}
	return false
}
