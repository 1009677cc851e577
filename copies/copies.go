// Package copies makes copies of values of package api that share no memory with them, for the layers that keep such values or give them out.
package copies

import (
	"slices"

	"sheetmetal/api"
)

// Machine returns a copy of a machine.
func Machine(m api.Machine) api.Machine {
	m.Punches, m.Dies = each(m.Punches, punch), each(m.Dies, die)
	m.Frame, m.Gauge = polygons(m.Frame), slices.Clone(m.Gauge)
	return m
}

// Tables returns a copy of bend tables.
func Tables(l []api.BendTable) []api.BendTable {
	return each(l, table)
}

// Part returns a copy of a part.
func Part(p api.Part) api.Part {
	p.Flanges, p.Holes = slices.Clone(p.Flanges), slices.Clone(p.Holes)
	return p
}

// Sheet returns a copy of a sheet.
func Sheet(s api.Sheet) api.Sheet {
	s.Clamps, s.Used = slices.Clone(s.Clamps), slices.Clone(s.Used)
	return s
}

// Layout returns a copy of a layout.
func Layout(l api.Layout) api.Layout {
	l.Sheet, l.Pieces = Sheet(l.Sheet), each(l.Pieces, piece)
	return l
}

func punch(x api.Punch) api.Punch {
	x.Polygons = polygons(x.Polygons)
	return x
}

func die(x api.Die) api.Die {
	x.Polygons = polygons(x.Polygons)
	return x
}

func polygons(l [][]api.Spot) [][]api.Spot {
	return each(l, polygon)
}

func polygon(l []api.Spot) []api.Spot {
	return slices.Clone(l)
}

func table(t api.BendTable) api.BendTable {
	t.Entries = slices.Clone(t.Entries)
	return t
}

func piece(x api.Piece) api.Piece {
	x.Rects, x.Cuts, x.Forms = slices.Clone(x.Rects), slices.Clone(x.Cuts), slices.Clone(x.Forms)
	return x
}

// each returns the copies of the elements of a list.
func each[T any](l []T, copied func(T) T) []T {
	var result []T
	for _, x := range l {
		result = append(result, copied(x))
	}
	return result
}
