package nest_test

import (
	"slices"
	"testing"

	"sheetmetal/api"
	"sheetmetal/nest"
)

// invalid are rectangles that are not valid.
func invalid() []api.Rect {
	l := []api.Rect{rect(0, 0, 0, 5), rect(0, 0, 5, 0), rect(0, 0, -1, 5), rect(5, 5, 5, -5), rect(-top-1, 0, 5, 5), rect(0, top, 5, 1), rect(top-4, 0, 5, 5)}
	for _, n := range wild {
		l = append(l, rect(n, 0, 5, 5), rect(0, n, 5, 5), rect(0, 0, n, 5), rect(0, 0, 5, n), rect(n, n, n, n))
	}
	return l
}

var wrongNames = []string{"", "S", "9s", "ninebytes", "a b", "part", "x", "ä"}

func sheetFaults() []fault[api.Sheet] {
	l := []fault[api.Sheet]{
		{"no gauge", 1, api.ErrArg, func(s *api.Sheet) { s.Gauge = 0 }},
		{"gauge 61", 1, api.ErrArg, func(s *api.Sheet) { s.Gauge = api.MaxGauge + 1 }},
		{"grain -1", 1, api.ErrArg, func(s *api.Sheet) { s.Grain = -1 }},
		{"grain 3", 1, api.ErrArg, func(s *api.Sheet) { s.Grain = 3 }},
		{"no width", 1, api.ErrArg, func(s *api.Sheet) { s.Width = 0 }},
		{"no height", 1, api.ErrArg, func(s *api.Sheet) { s.Height = 0 }},
		{"five clamps", 2, api.ErrLarge, func(s *api.Sheet) {
			s.Clamps = append(s.Clamps, slices.Repeat([]api.Rect{rect(1, 1, 1, 1)}, api.MaxClamps)...)
		}},
		{"49 used", 2, api.ErrLarge, func(s *api.Sheet) {
			s.Used = append(s.Used, slices.Repeat([]api.Rect{rect(1, 1, 1, 1)}, api.MaxRects)...)
		}},
	}
	for _, name := range wrongNames {
		l = append(l, fault[api.Sheet]{"name " + name, 0, api.ErrName, func(s *api.Sheet) { s.Name = name }},
			fault[api.Sheet]{"material " + name, 0, api.ErrName, func(s *api.Sheet) { s.Material = name }})
	}
	for _, n := range wild {
		l = append(l, fault[api.Sheet]{"wild gauge", 1, api.ErrArg, func(s *api.Sheet) { s.Gauge = n }},
			fault[api.Sheet]{"wild grain", 1, api.ErrArg, func(s *api.Sheet) { s.Grain = n }},
			fault[api.Sheet]{"wild width", 1, api.ErrArg, func(s *api.Sheet) { s.Width = n }},
			fault[api.Sheet]{"wild height", 1, api.ErrArg, func(s *api.Sheet) { s.Height = n }})
	}
	for _, r := range invalid() {
		l = append(l, fault[api.Sheet]{"an invalid clamp", 3, api.ErrArg, func(s *api.Sheet) { s.Clamps = append(s.Clamps, r) }},
			fault[api.Sheet]{"an invalid used rectangle", 3, api.ErrArg, func(s *api.Sheet) { s.Used = append(s.Used, r) }})
	}
	for _, r := range []api.Rect{rect(-1, 0, 5, 5), rect(0, -1, 5, 5), rect(0, 0, 101, 5), rect(0, 0, 5, 81), rect(96, 0, 5, 5), rect(0, 76, 5, 5), rect(-9, -9, 200, 200), rect(200, 200, 1, 1)} {
		l = append(l, fault[api.Sheet]{"a clamp outside", 4, api.ErrFit, func(s *api.Sheet) { s.Clamps = append(s.Clamps, r) }},
			fault[api.Sheet]{"a used rectangle outside", 4, api.ErrFit, func(s *api.Sheet) { s.Used = append(s.Used, r) }},
			fault[api.Sheet]{"a used rectangle outside, at the beginning", 4, api.ErrFit, func(s *api.Sheet) { s.Used = slices.Insert(s.Used, 0, r) }})
	}
	return l
}

func TestValidateSheet(t *testing.T) {
	expectFaults(t, some, sheetFaults(), nest.ValidateSheet)
	full := some()
	full.Clamps = slices.Repeat([]api.Rect{rect(0, 0, 100, 80)}, api.MaxClamps)
	full.Used = slices.Repeat([]api.Rect{rect(99, 79, 1, 1)}, api.MaxRects)
	large := sheet(top, top)
	large.Used = []api.Rect{rect(0, 0, top, top), rect(top-1, top-1, 1, 1)}
	for gauge, s := range map[int]api.Sheet{1: sheet(1, 1), api.MaxGauge: large, 10: full} {
		for grain := range 3 {
			s.Gauge, s.Grain = gauge, grain
			if e := nest.ValidateSheet(s); e != api.OK {
				t.Error(s, e)
			}
		}
	}
}

// plate returns a piece of two rectangles with holes in both of them.
func plate() api.Piece {
	x := piece(rect(0, 0, 20, 20), rect(20, 5, 10, 10))
	x.Cuts = []api.Rect{rect(1, 1, 4, 4), rect(22, 7, 2, 2)}
	x.Forms = []api.Rect{rect(10, 10, 1, 9), rect(14, 14, 5, 5)}
	return x
}

// setLists sets the lists of a piece, those that are not nil.
func setLists(rects, cuts, forms []api.Rect) func(*api.Piece) {
	return func(x *api.Piece) {
		if rects != nil {
			x.Rects = rects
		}
		if cuts != nil {
			x.Cuts = cuts
		}
		if forms != nil {
			x.Forms = forms
		}
	}
}

func pieceFaults() []fault[api.Piece] {
	many := slices.Repeat([]api.Rect{rect(1, 1, 1, 1)}, 12)
	l := []fault[api.Piece]{
		{"no gauge", 1, api.ErrArg, func(x *api.Piece) { x.Gauge = 0 }},
		{"gauge 61", 1, api.ErrArg, func(x *api.Piece) { x.Gauge = api.MaxGauge + 1 }},
		{"grain -1", 1, api.ErrArg, func(x *api.Piece) { x.Grain = -1 }},
		{"grain 3", 1, api.ErrArg, func(x *api.Piece) { x.Grain = 3 }},
		{"13 rectangles", 2, api.ErrLarge, func(x *api.Piece) { x.Rects = append(x.Rects, many...) }},
		{"13 cuts", 2, api.ErrLarge, func(x *api.Piece) { x.Cuts = append(x.Cuts, many...) }},
		{"13 forms", 2, api.ErrLarge, func(x *api.Piece) { x.Forms = append(x.Forms, many...) }},
		{"X begins at 1", 4, api.ErrArg, func(x *api.Piece) { moveRects(x.Rects, 1, 0) }},
		{"X begins at -1", 4, api.ErrArg, func(x *api.Piece) { moveRects(x.Rects, -1, 0) }},
		{"Y begins at 1", 4, api.ErrArg, func(x *api.Piece) { moveRects(x.Rects, 0, 1) }},
		{"Y begins at -1", 4, api.ErrArg, func(x *api.Piece) { moveRects(x.Rects, 0, -1) }},
		{"two overlap", 5, api.ErrOverlap, func(x *api.Piece) { x.Rects = append(x.Rects, rect(29, 5, 10, 10)) }},
		{"one twice", 5, api.ErrOverlap, func(x *api.Piece) { x.Rects = append(x.Rects, x.Rects[0]) }},
		{"one inside another", 5, api.ErrOverlap, func(x *api.Piece) { x.Rects = append(x.Rects, rect(3, 3, 1, 1)) }},
		{"one apart", 6, api.ErrShape, func(x *api.Piece) { x.Rects = append(x.Rects, rect(41, 5, 10, 10)) }},
		{"one at a corner", 6, api.ErrShape, func(x *api.Piece) { x.Rects = append(x.Rects, rect(40, 25, 5, 5)) }},
	}
	for _, name := range wrongNames {
		l = append(l, fault[api.Piece]{"name " + name, 0, api.ErrName, func(x *api.Piece) { x.Name = name }},
			fault[api.Piece]{"material " + name, 0, api.ErrName, func(x *api.Piece) { x.Material = name }})
	}
	for _, n := range wild {
		l = append(l, fault[api.Piece]{"wild gauge", 1, api.ErrArg, func(x *api.Piece) { x.Gauge = n }},
			fault[api.Piece]{"wild grain", 1, api.ErrArg, func(x *api.Piece) { x.Grain = n }})
	}
	for _, r := range invalid() {
		l = append(l, fault[api.Piece]{"an invalid rectangle", 3, api.ErrArg, func(x *api.Piece) { x.Rects = append(x.Rects, r) }},
			fault[api.Piece]{"an invalid cut", 3, api.ErrArg, func(x *api.Piece) { x.Cuts = append(x.Cuts, r) }},
			fault[api.Piece]{"an invalid form", 3, api.ErrArg, func(x *api.Piece) { x.Forms = append(x.Forms, r) }})
	}
	// Not inside of any rectangle: at a side, over two of them, outside, around all; or too narrow for a cut.
	for _, r := range []api.Rect{rect(0, 7, 2, 2), rect(7, 0, 2, 2), rect(18, 1, 2, 2), rect(1, 18, 2, 2), rect(20, 9, 2, 2), rect(18, 8, 4, 2), rect(25, 12, 2, 3), rect(22, 16, 3, 3), rect(100, 100, 2, 2), rect(-1, -1, 50, 50)} {
		l = append(l, fault[api.Piece]{"a cut not inside", 7, api.ErrFit, func(x *api.Piece) { x.Cuts = append(x.Cuts, r) }},
			fault[api.Piece]{"a form not inside", 7, api.ErrFit, func(x *api.Piece) { x.Forms = append(x.Forms, r) }})
	}
	l = append(l, fault[api.Piece]{"a cut of width 1", 7, api.ErrFit, func(x *api.Piece) { x.Cuts = append(x.Cuts, rect(7, 2, 1, 5)) }},
		fault[api.Piece]{"a cut of height 1", 7, api.ErrFit, func(x *api.Piece) { x.Cuts = append(x.Cuts, rect(7, 2, 5, 1)) }})
	for _, r := range []api.Rect{rect(1, 1, 4, 4), rect(5, 1, 3, 3), rect(1, 5, 3, 3), rect(5, 5, 2, 2), rect(2, 2, 2, 2), rect(24, 9, 2, 2), rect(11, 12, 2, 2), rect(12, 12, 2, 2)} {
		l = append(l, fault[api.Piece]{"a cut at a hole", 8, api.ErrOverlap, func(x *api.Piece) { x.Cuts = append(x.Cuts, r) }},
			fault[api.Piece]{"a form at a hole", 8, api.ErrOverlap, func(x *api.Piece) { x.Forms = append(x.Forms, r) }})
	}
	return l
}

func moveRects(l []api.Rect, x, y int) {
	for i := range l {
		l[i].X += x
		l[i].Y += y
	}
}

func TestValidatePiece(t *testing.T) {
	expectFaults(t, plate, pieceFaults(), nest.ValidatePiece)
	for name, c := range map[string]struct {
		change func(*api.Piece)
		want   api.Errno
	}{
		"no rectangles":                          {setLists([]api.Rect{}, nil, nil), api.ErrArg},
		"nothing":                                {setLists([]api.Rect{}, []api.Rect{}, []api.Rect{}), api.ErrArg},
		"no rectangles, 13 cuts":                 {setLists([]api.Rect{}, make([]api.Rect, 13), nil), api.ErrLarge},
		"no rectangles, and no name":             {func(x *api.Piece) { *x = api.Piece{} }, api.ErrName},
		"12 cuts and 12 forms, all alike":        {setLists(nil, slices.Repeat([]api.Rect{rect(1, 1, 2, 2)}, 12), slices.Repeat([]api.Rect{rect(1, 1, 2, 2)}, 12)), api.ErrOverlap},
		"one, begins at -1":                      {setLists([]api.Rect{rect(-1, 0, 20, 20)}, []api.Rect{}, []api.Rect{}), api.ErrArg},
		"one, begins at 1":                       {setLists([]api.Rect{rect(0, 1, 20, 20)}, []api.Rect{}, []api.Rect{}), api.ErrArg},
		"the smallest one":                       {setLists([]api.Rect{rect(0, 0, 1, 1)}, []api.Rect{}, []api.Rect{}), api.OK},
		"the largest one":                        {setLists([]api.Rect{rect(0, 0, top, top)}, nil, nil), api.OK},
		"0, 0 is in no rectangle":                {setLists([]api.Rect{rect(5, 0, 5, 5), rect(0, 5, 8, 5)}, []api.Rect{}, []api.Rect{}), api.OK},
		"X from one, Y from another":             {setLists([]api.Rect{rect(0, 5, 8, 5), rect(5, 0, 5, 5)}, []api.Rect{}, []api.Rect{}), api.OK},
		"a form as close as it may be":           {setLists(nil, []api.Rect{rect(1, 1, 2, 2)}, []api.Rect{rect(4, 1, 1, 1)}), api.OK},
		"a form as close as it may be, above":    {setLists(nil, []api.Rect{rect(1, 1, 2, 2)}, []api.Rect{rect(1, 4, 1, 1)}), api.OK},
		"a form that fills its rectangle":        {setLists(nil, []api.Rect{}, []api.Rect{rect(1, 1, 18, 18)}), api.OK},
		"a cut that fills its rectangle":         {setLists(nil, []api.Rect{rect(21, 6, 8, 8)}, []api.Rect{}), api.OK},
		"a cut, by 1 too wide":                   {setLists(nil, []api.Rect{rect(21, 6, 9, 8)}, []api.Rect{}), api.ErrFit},
		"a form, by 1 too high":                  {setLists(nil, []api.Rect{}, []api.Rect{rect(1, 1, 18, 19)}), api.ErrFit},
		"a form in a rectangle of width 3":       {setLists([]api.Rect{rect(0, 0, 3, 3)}, []api.Rect{}, []api.Rect{rect(1, 1, 1, 1)}), api.OK},
		"a cut in a rectangle of width 3":        {setLists([]api.Rect{rect(0, 0, 3, 3)}, []api.Rect{rect(1, 1, 1, 1)}, []api.Rect{}), api.ErrFit},
		"a form in a rectangle of width 2":       {setLists([]api.Rect{rect(0, 0, 2, 9)}, []api.Rect{}, []api.Rect{rect(1, 1, 1, 1)}), api.ErrFit},
		"a cut of 2 by 2":                        {setLists(nil, []api.Rect{rect(1, 1, 2, 2)}, []api.Rect{}), api.OK},
		"a cut over two, inside of both":         {setLists([]api.Rect{rect(0, 0, 20, 20), rect(20, 0, 20, 20)}, []api.Rect{rect(15, 5, 10, 10)}, []api.Rect{}), api.ErrFit},
		"forms on two sides of a line":           {setLists([]api.Rect{rect(0, 0, 20, 20), rect(20, 0, 20, 20)}, []api.Rect{}, []api.Rect{rect(18, 5, 1, 1), rect(21, 5, 1, 1)}), api.OK},
		"the cuts are far from every rectangle":  {setLists([]api.Rect{rect(0, 0, 1, 1)}, nil, nil), api.ErrFit},
		"two at a corner, and no other neighbor": {setLists([]api.Rect{rect(0, 0, 9, 9), rect(9, 9, 9, 9)}, []api.Rect{}, []api.Rect{}), api.ErrShape},
		"two on a line, apart":                   {setLists([]api.Rect{rect(0, 0, 9, 9), rect(10, 0, 9, 9)}, []api.Rect{}, []api.Rect{}), api.ErrShape},
		"two that touch by 1":                    {setLists([]api.Rect{rect(0, 0, 9, 9), rect(9, 8, 9, 9)}, []api.Rect{}, []api.Rect{}), api.OK},
		"two that touch by 1, above":             {setLists([]api.Rect{rect(8, 0, 9, 9), rect(0, 9, 9, 9)}, []api.Rect{}, []api.Rect{}), api.OK},
		"two and two":                            {setLists([]api.Rect{rect(0, 0, 9, 9), rect(20, 0, 9, 9), rect(9, 0, 9, 9), rect(29, 0, 9, 9)}, []api.Rect{}, []api.Rect{}), api.ErrShape},
		"two and two, with one between":          {setLists([]api.Rect{rect(0, 0, 9, 9), rect(20, 0, 9, 9), rect(9, 0, 9, 9), rect(29, 0, 9, 9), rect(18, 0, 2, 1)}, []api.Rect{}, []api.Rect{}), api.OK},
		"a ring":                                 {setLists([]api.Rect{rect(0, 0, 9, 3), rect(0, 6, 9, 3), rect(0, 3, 3, 3), rect(6, 3, 3, 3)}, []api.Rect{}, []api.Rect{}), api.OK},
	} {
		x := plate()
		c.change(&x)
		if e := nest.ValidatePiece(x); e != c.want {
			t.Errorf("%s: %v, want %v", name, e, c.want)
		}
	}
}

// TestChainsAreConnected holds that a chain of twelve is connected in any order, and not without an inner link.
func TestChainsAreConnected(t *testing.T) {
	for step := 1; step < 13; step++ {
		var l []api.Rect
		for i := range 12 {
			n := (i + 1) * step % 13
			l = append(l, rect(5*n-5, n%2, 5, 9)) // from 1 to 12, since 13 is a prime
		}
		if e := nest.ValidatePiece(piece(l...)); e != api.OK {
			t.Error(l, e)
		}
		for i, r := range l {
			want := api.ErrShape
			switch r.X {
			case 0:
				want = api.ErrArg
			case 55:
				want = api.OK
			}
			if e := nest.ValidatePiece(piece(slices.Delete(slices.Clone(l), i, i+1)...)); e != want {
				t.Error(l, i, e)
			}
		}
	}
}

func TestValidSettings(t *testing.T) {
	for _, n := range []int{0, 1, maxGap} {
		for _, common := range []bool{false, true} {
			for _, set := range []api.Settings{{Gap: n, Common: common}, {Margin: n, Common: common}, {Gap: n, Margin: maxGap - n, Common: common}} {
				if !nest.ValidSettings(set) {
					t.Error(set)
				}
			}
		}
	}
	for _, n := range append([]int{-1, maxGap + 1, 20 * maxGap}, wild...) {
		for _, set := range []api.Settings{{Gap: n}, {Margin: n}, {Gap: n, Margin: n, Common: true}} {
			if nest.ValidSettings(set) {
				t.Error(set)
			}
		}
	}
}
