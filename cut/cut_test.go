package cut_test

import (
	"math"
	"math/rand"
	"reflect"
	"slices"
	"testing"

	"sheetmetal/api"
	"sheetmetal/cut"
)

const (
	top  = api.MaxTicks
	side = api.MinSide * api.Scale // of the smallest square that is not small
	near = api.MaxLead * api.Scale
)

// wild are numbers that are out of the range of any field.
var wild = []int{math.MinInt, math.MinInt + 1, -1 << 32, -top - 1, top + 1, 1 << 32, 1<<32 + 1, 1 << 62, math.MaxInt - 1, math.MaxInt}

func rect(x, y, w, h int) api.Rect {
	return api.Rect{X: x, Y: y, W: w, H: h}
}

// sheet returns an empty sheet.
func sheet(w, h int) api.Sheet {
	return api.Sheet{Name: "s", Material: "steel", Gauge: 10, Width: w, Height: h}
}

// piece returns a piece of rectangles.
func piece(l ...api.Rect) api.Piece {
	return api.Piece{Name: "p", Material: "steel", Gauge: 10, Rects: l}
}

// square returns a square piece in a row and column of squares, the first of which are one square away from the sheet's border.
func square(column, row int) api.Piece {
	return piece(rect((column+1)*side, (row+1)*side, side, side))
}

// layout returns a layout on a sheet of ten by ten squares.
func layout(l ...api.Piece) api.Layout {
	return api.Layout{Sheet: sheet(10*side, 10*side), Pieces: l}
}

// withHole returns a piece with a hole more.
func withHole(x api.Piece, r api.Rect) api.Piece {
	x.Cuts = append(slices.Clone(x.Cuts), r)
	return x
}

// outline returns the item for the outline of a piece, with the lead at the lower left corner of its first rectangle.
func outline(l api.Layout, i, joints int) api.Item {
	r := l.Pieces[i].Rects[0]
	return api.Item{Piece: i, Hole: -1, Joints: joints, Lead: api.Spot{X: r.X, Y: r.Y}}
}

// outlines returns the items for the outlines of pieces, without joints.
func outlines(l api.Layout, pieces ...int) []api.Item {
	var items []api.Item
	for _, i := range pieces {
		items = append(items, outline(l, i, 0))
	}
	return items
}

// hole returns the item for a hole of a piece, with the lead next to its lower left corner.
func hole(l api.Layout, i, j int) api.Item {
	r := l.Pieces[i].Cuts[j]
	return api.Item{Piece: i, Hole: j, Lead: api.Spot{X: r.X + 1, Y: r.Y + 1}}
}

// sameState compares states, in which a list may be nil or empty.
func sameState(a, b cut.State) bool {
	return slices.Equal(a.Cut, b.Cut) && slices.EqualFunc(a.Holes, b.Holes, slices.Equal) && slices.Equal(a.Done, b.Done) &&
		slices.Equal(a.Joints, b.Joints) && slices.Equal(a.Fallen, b.Fallen)
}

func isZero(st cut.State) bool {
	return reflect.DeepEqual(st, cut.State{})
}

func copyState(st cut.State) cut.State {
	c := cut.State{Cut: slices.Clone(st.Cut), Done: slices.Clone(st.Done), Joints: slices.Clone(st.Joints), Fallen: slices.Clone(st.Fallen)}
	for _, l := range st.Holes {
		c.Holes = append(c.Holes, slices.Clone(l))
	}
	return c
}

// start returns the first state of a valid layout.
func start(t *testing.T, l api.Layout) cut.State {
	t.Helper()
	st, e := cut.Start(l)
	if e != api.OK {
		t.Fatal(l, e)
	}
	return st
}

// fault is a change that makes a value wrong. Of several faults, the one with the lowest rank decides.
type fault[T any] struct {
	name string
	rank int
	want api.Errno
	make func(*T)
}

// expectFaults holds that validate returns the error of each fault, and of each two faults that of the lower rank.
func expectFaults[T any](t *testing.T, valid func() T, l []fault[T], validate func(T) api.Errno) {
	t.Helper()
	if e := validate(valid()); e != api.OK {
		t.Error("valid", e)
	}
	for _, a := range l {
		x := valid()
		a.make(&x)
		if e := validate(x); e != a.want {
			t.Error(a.name, e)
		}
		for _, b := range l {
			if a.rank == b.rank {
				continue
			}
			y := valid()
			a.make(&y)
			b.make(&y)
			want := a.want
			if b.rank < a.rank {
				want = b.want
			}
			if e := validate(y); e != want {
				t.Errorf("%s, %s: %v, want %v", a.name, b.name, e, want)
			}
		}
	}
}

func TestStart(t *testing.T) {
	holed := withHole(withHole(square(1, 0), rect(2*side+9, side+9, 5, 5)), rect(2*side+20, side+9, 5, 5))
	for _, x := range []struct {
		l    api.Layout
		want cut.State
	}{
		{layout(), cut.State{}},
		{layout(square(0, 0)), cut.State{Cut: make([]bool, 4), Holes: make([][]bool, 1), Done: make([]bool, 1), Joints: make([]int, 1), Fallen: make([]bool, 1)}},
		{layout(square(0, 0), holed), cut.State{Cut: make([]bool, 7), Holes: [][]bool{nil, {false, false}}, Done: make([]bool, 2), Joints: make([]int, 2), Fallen: make([]bool, 2)}},
	} {
		if st, e := cut.Start(x.l); e != api.OK || !sameState(st, x.want) {
			t.Error(x.l, st, e)
		}
	}
}

// call is the argument of Do.
type call struct {
	l  api.Layout
	st cut.State
	x  api.Item
}

// between returns a layout with the piece 0, which has a hole, between the pieces 1, on its left, and 2, on its right; in the upper right corner of the sheet are two clamps that touch.
func between() api.Layout {
	l := layout(withHole(square(1, 0), rect(2*side+100, side+100, 50, 40)), square(0, 0), square(2, 0))
	l.Sheet.Clamps = []api.Rect{rect(8*side, 8*side, side, 2*side), rect(9*side, 8*side, side, 2*side)}
	return l
}

// doOutline returns a call for the outline of the piece 0 of between, after its hole.
func doOutline() call {
	l := between()
	st, _, e := cut.Run(l, []api.Item{hole(l, 0, 0)})
	if e != api.OK {
		panic(e)
	}
	return call{l, st, outline(l, 0, 0)}
}

// doHole returns a call for the hole of the piece 0 of between.
func doHole() call {
	l := between()
	st, e := cut.Start(l)
	if e != api.OK {
		panic(e)
	}
	return call{l, st, hole(l, 0, 0)}
}

// faultsOfCalls are those that any item may have.
func faultsOfCalls() []fault[call] {
	l := []fault[call]{
		{"an edge more", 1, api.ErrArg, func(c *call) { c.st.Cut = append(c.st.Cut, false) }},
		{"an edge less", 1, api.ErrArg, func(c *call) { c.st.Cut = c.st.Cut[1:] }},
		{"a list of holes more", 1, api.ErrArg, func(c *call) { c.st.Holes = append(c.st.Holes, nil) }},
		{"a list of holes less", 1, api.ErrArg, func(c *call) { c.st.Holes = c.st.Holes[:1] }},
		{"a hole more", 1, api.ErrArg, func(c *call) { c.st.Holes[0] = append(c.st.Holes[0], true) }},
		{"a hole more of another piece", 1, api.ErrArg, func(c *call) { c.st.Holes[2] = append(c.st.Holes[2], false) }},
		{"a hole less", 1, api.ErrArg, func(c *call) { c.st.Holes[0] = nil }},
		{"an outline more", 1, api.ErrArg, func(c *call) { c.st.Done = append(c.st.Done, false) }},
		{"an outline less", 1, api.ErrArg, func(c *call) { c.st.Done = c.st.Done[:2] }},
		{"joints of a piece more", 1, api.ErrArg, func(c *call) { c.st.Joints = append(c.st.Joints, 0) }},
		{"joints of a piece less", 1, api.ErrArg, func(c *call) { c.st.Joints = c.st.Joints[:2] }},
		{"a fallen piece more", 1, api.ErrArg, func(c *call) { c.st.Fallen = append(c.st.Fallen, false) }},
		{"a fallen piece less", 1, api.ErrArg, func(c *call) { c.st.Fallen = c.st.Fallen[:2] }},
		{"no state", 1, api.ErrArg, func(c *call) { c.st = cut.State{} }},
		{"fallen", 2, api.ErrOrder, func(c *call) {
			if len(c.st.Fallen) > 0 {
				c.st.Fallen[0] = true
			}
		}},
	}
	for _, n := range append(wild, -1, 3) {
		l = append(l, fault[call]{"no such piece", 1, api.ErrArg, func(c *call) { c.x.Piece = n }})
	}
	for _, n := range append(wild, -2, 1) {
		l = append(l, fault[call]{"no such hole", 1, api.ErrArg, func(c *call) { c.x.Hole = n }})
	}
	for _, n := range append(wild, -1, api.MaxJoints+1) {
		l = append(l, fault[call]{"no such joints", 1, api.ErrArg, func(c *call) { c.x.Joints = n }})
	}
	for _, n := range wild {
		for _, s := range []api.Spot{{X: n, Y: n}, {X: n, Y: side}, {X: 2 * side, Y: n}} {
			l = append(l, fault[call]{"a wild lead", 4, api.ErrLead, func(c *call) { c.x.Lead = s }})
		}
	}
	return l
}

// do is the error of Do; it holds that there is no state with one.
func do(t *testing.T, c call) api.Errno {
	t.Helper()
	st, e := cut.Do(c.l, c.st, c.x)
	if e != api.OK && !isZero(st) {
		t.Error("not a zero value", c, st)
	}
	return e
}

// flatten makes squares in a row small, with as many edges as before.
func flatten(l api.Layout) {
	for _, x := range l.Pieces {
		x.Rects[0].H--
	}
}

func TestErrorsOfOutlines(t *testing.T) {
	faults := append(faultsOfCalls(),
		fault[call]{"no layout", 0, api.ErrName, func(c *call) { c.l.Sheet.Name = "" }},
		fault[call]{"done", 2, api.ErrOrder, func(c *call) {
			if len(c.st.Done) > 0 {
				c.st.Done[0] = true
			}
		}},
		fault[call]{"the hole is not cut", 2, api.ErrOrder, func(c *call) {
			if len(c.st.Holes) > 0 && len(c.st.Holes[0]) > 0 {
				c.st.Holes[0][0] = false
			}
		}},
		fault[call]{"all edges are cut", 2, api.ErrOrder, func(c *call) {
			for i := range c.st.Cut {
				c.st.Cut[i] = true
			}
		}},
		fault[call]{"small", 3, api.ErrJoint, func(c *call) { flatten(c.l) }},
	)
	for name, s := range map[string]api.Spot{
		"left of the sheet":                     {X: -1, Y: side},
		"below the sheet":                       {X: 2 * side, Y: -1},
		"right of the sheet":                    {X: 10*side + 1, Y: side},
		"above the sheet":                       {X: 2 * side, Y: 10*side + 1},
		"in the piece":                          {X: 2*side + 1, Y: side + 1},
		"in the piece's hole":                   {X: 2*side + 120, Y: side + 120},
		"in another piece":                      {X: 2*side - 1, Y: side + 1},
		"in the last piece":                     {X: 3*side + 1, Y: 2*side - 9},
		"too far to the left":                   {X: 2*side - near - 1, Y: side},
		"too far below is below the sheet":      {X: 2 * side, Y: side - near - 1},
		"too far to the right":                  {X: 3*side + near + 1, Y: side},
		"too far above":                         {X: 2 * side, Y: 2*side + near + 1},
		"too far above, beyond the right side":  {X: 4 * side, Y: 2*side + near + 1},
		"too far on the right, beyond its side": {X: 3*side + near + 1, Y: 3 * side},
	} {
		faults = append(faults, fault[call]{name, 4, api.ErrLead, func(c *call) { c.x.Lead = s }})
	}
	expectFaults(t, doOutline, faults, func(c call) api.Errno { return do(t, c) })
}

func TestErrorsOfHoles(t *testing.T) {
	faults := append(faultsOfCalls(),
		fault[call]{"no layout", 0, api.ErrArg, func(c *call) { c.l.Pieces[2].Rects = nil }},
		fault[call]{"a joint", 1, api.ErrArg, func(c *call) { c.x.Joints = 1 }},
		fault[call]{"cut", 2, api.ErrOrder, func(c *call) {
			if len(c.st.Holes) > 0 && len(c.st.Holes[0]) > 0 {
				c.st.Holes[0][0] = true
			}
		}},
	)
	x, y := 2*side+100, side+100
	for name, s := range map[string]api.Spot{
		"on its left side":      {X: x, Y: y + 20},
		"on its right side":     {X: x + 50, Y: y + 20},
		"on its lower side":     {X: x + 20, Y: y},
		"on its upper side":     {X: x + 20, Y: y + 40},
		"on its corner":         {X: x, Y: y},
		"on its opposite":       {X: x + 50, Y: y + 40},
		"left of it":            {X: x - 9, Y: y + 20},
		"above it":              {X: x + 20, Y: y + 49},
		"at the piece's corner": {X: 2 * side, Y: side},
		"nowhere":               {},
	} {
		faults = append(faults, fault[call]{name, 4, api.ErrLead, func(c *call) { c.x.Lead = s }})
	}
	expectFaults(t, doHole, faults, func(c call) api.Errno { return do(t, c) })
	for _, s := range []api.Spot{{X: x + 1, Y: y + 1}, {X: x + 49, Y: y + 39}, {X: x + 1, Y: y + 39}, {X: x + 25, Y: y + 20}} {
		c := doHole()
		c.x.Lead = s
		if e := do(t, c); e != api.OK {
			t.Error(s, e)
		}
	}
	// A hole is cut whatever its piece's outline and edges are, while it has not fallen, and needs no joint.
	c := doHole()
	flatten(c.l)
	c.st.Done[0], c.st.Joints[0] = true, 1
	for i := range c.st.Cut {
		c.st.Cut[i] = true
	}
	if e := do(t, c); e != api.OK {
		t.Error(e)
	}
}

func TestLeadsOfOutlines(t *testing.T) {
	// On the border of the sheet, of pieces and of clamps, in a notch, and as far away as may be.
	for _, s := range []api.Spot{
		{X: 2 * side, Y: 0}, {X: 3 * side, Y: 0}, {X: 2 * side, Y: side}, {X: 2*side + 9, Y: 2 * side}, {X: 2 * side, Y: side + 9}, {X: 3 * side, Y: 2*side - 1},
		{X: side, Y: side}, {X: side, Y: 2*side + 9}, {X: 4 * side, Y: side}, {X: 2*side - near, Y: side - near}, {X: 3*side + near, Y: 2*side + near}, {X: 3*side + near, Y: side + 1},
	} {
		c := doOutline()
		c.x.Lead = s
		if e := do(t, c); e != api.OK {
			t.Error(s, e)
		}
	}
	// Near a piece of which only the upper edge is left, an edge that is cut does not count.
	l := layout(piece(rect(side, side, side, 2*near+1)))
	st := start(t, l)
	st.Cut[0], st.Cut[2], st.Cut[3] = true, true, true
	for y, want := range map[int]api.Errno{
		side:                api.ErrLead,
		side + near:         api.ErrLead,
		side + near + 1:     api.OK,
		side + 2*near + 1:   api.OK,
		side + 3*near + 1:   api.OK,
		side + 3*near + 2:   api.ErrLead,
		side + 2*near + 500: api.OK,
	} {
		for _, x := range []int{side, side - near, side + side + near} {
			if e := do(t, call{l, st, api.Item{Hole: -1, Lead: api.Spot{X: x, Y: y}}}); e != want {
				t.Error(x, y, e)
			}
		}
	}
	// A piece that fills a sheet has its leads on the border of both. What is used is no obstacle, if it is near enough.
	l = api.Layout{Sheet: sheet(side, side+50), Pieces: []api.Piece{piece(rect(0, 0, side, side))}}
	l.Sheet.Used = []api.Rect{rect(0, side, side, 50)}
	for s, want := range map[api.Spot]api.Errno{
		{}: api.OK, {X: side}: api.OK, {Y: 9}: api.OK, {X: 9}: api.OK, {X: side, Y: side + 50}: api.OK, {Y: side + 50}: api.OK, {X: 9, Y: side + 9}: api.OK, {X: 9, Y: side}: api.OK,
		{X: -1}: api.ErrLead, {Y: -1}: api.ErrLead, {X: side + 1}: api.ErrLead, {Y: side + 51}: api.ErrLead, {X: 9, Y: side - 1}: api.ErrLead, {X: 1, Y: 1}: api.ErrLead,
	} {
		if e := do(t, call{l, start(t, l), api.Item{Hole: -1, Lead: s}}); e != want {
			t.Error(s, e)
		}
	}
	// Between two clamps that touch is the interior of their region; between two pieces is not.
	l = between()
	l.Pieces[0] = square(6, 6)
	for s, want := range map[api.Spot]api.Errno{
		{X: 8 * side, Y: 8 * side}:     api.OK,
		{X: 8 * side, Y: 8*side + 9}:   api.OK,
		{X: 9 * side, Y: 8 * side}:     api.OK,
		{X: 9 * side, Y: 8*side + 9}:   api.ErrLead,
		{X: 8*side + 1, Y: 8*side + 1}: api.ErrLead,
	} {
		if e := do(t, call{l, start(t, l), api.Item{Hole: -1, Lead: s}}); e != want {
			t.Error(s, e)
		}
	}
}

func TestJoints(t *testing.T) {
	for joints := range api.MaxJoints + 1 {
		for _, less := range []int{0, 1} {
			l := layout(square(0, 0))
			l.Pieces[0].Rects[0].W -= less
			want := cut.State{Cut: []bool{true, true, true, true}, Holes: make([][]bool, 1), Done: []bool{true}, Joints: []int{joints}, Fallen: []bool{joints == 0}}
			st, e := cut.Do(l, start(t, l), outline(l, 0, joints))
			if less == 1 && joints == 0 {
				if e != api.ErrJoint || !isZero(st) {
					t.Error("small", st, e)
				}
				continue
			}
			if e != api.OK || !sameState(st, want) {
				t.Error(less, st, e)
			}
		}
	}
	// A small piece needs no joint of its own to fall by the others around it.
	l := layout(piece(rect(side, side, side, side)), piece(rect(2*side, side, side, side)), piece(rect(0, side, side, side)), piece(rect(0, 0, 3*side, side)), piece(rect(0, 2*side, 3*side, side)))
	l.Pieces[0].Rects[0].W--
	l.Pieces[1].Rects[0].X, l.Pieces[1].Rects[0].W = 2*side-1, side+1
	st, _, e := cut.Run(l, outlines(l, 1, 2, 3, 4))
	if e != api.OK || !st.Fallen[0] || st.Done[0] {
		t.Error(st, e)
	}
}

// TestAnyState holds what Do makes of states that no items lead to.
func TestAnyState(t *testing.T) {
	for _, x := range []struct {
		name string
		make func(*cut.State)
		item int // the piece of the item
		want []bool
	}{
		{"nothing", func(st *cut.State) {}, 1, []bool{false, true, false}},
		{"what has fallen stays so", func(st *cut.State) { st.Fallen[2], st.Done[2], st.Joints[2] = true, true, 1 }, 1, []bool{false, true, true}},
		{"all edges are cut", func(st *cut.State) { cutAll(st, 1, 4, 7, 8) }, 1, []bool{true, true, false}},
		{"all but one", func(st *cut.State) { cutAll(st, 1, 4, 7) }, 1, []bool{false, true, false}},
		{"joints below 0 are none", func(st *cut.State) { cutAll(st, 1, 4, 7, 8); st.Done[0], st.Joints[0] = true, -1 }, 1, []bool{true, true, false}},
		{"wildly below 0", func(st *cut.State) { cutAll(st, 1, 4, 7, 8); st.Done[0], st.Joints[0] = true, math.MinInt }, 1, []bool{true, true, false}},
		{"no joints", func(st *cut.State) { cutAll(st, 1, 4, 7, 8); st.Done[0], st.Joints[0] = true, 0 }, 1, []bool{true, true, false}},
		{"held by a joint", func(st *cut.State) { cutAll(st, 1, 4, 7, 8); st.Done[0], st.Joints[0] = true, 1 }, 1, []bool{false, true, false}},
		{"held by many joints", func(st *cut.State) { cutAll(st, 1, 4, 7, 8); st.Done[0], st.Joints[0] = true, math.MaxInt }, 1, []bool{false, true, false}},
		{"joints without an outline", func(st *cut.State) { cutAll(st, 1, 4, 7, 8); st.Joints[0] = 1 }, 1, []bool{true, true, false}},
		{"done, but not cut", func(st *cut.State) { st.Done[0] = true }, 1, []bool{false, true, false}},
		{"the item's joints replace others", func(st *cut.State) { st.Joints[1] = 4 }, 1, []bool{false, true, false}},
	} {
		l := between()
		l.Pieces[0].Cuts = nil
		st := start(t, l)
		x.make(&st)
		before := copyState(st)
		next, e := cut.Do(l, st, outline(l, x.item, 0))
		if e != api.OK || !slices.Equal(next.Fallen, x.want) || !next.Done[x.item] || next.Joints[x.item] != 0 {
			t.Error(x.name, next, e)
		}
		if !sameState(st, before) {
			t.Error("changed", x.name, st)
		}
	}
	// The pieces fall after a hole too.
	c := doHole()
	cutAll(&c.st, 0, 1, 2, 3, 4, 5, 6, 7, 8, 9)
	next, e := cut.Do(c.l, c.st, c.x)
	if e != api.OK || !slices.Equal(next.Fallen, []bool{true, true, true}) || !next.Holes[0][0] || slices.Contains(next.Done, true) {
		t.Error(next, e)
	}
}

// cutAll cuts edges of a state.
func cutAll(st *cut.State, edges ...int) {
	for _, i := range edges {
		st.Cut[i] = true
	}
}

func TestRun(t *testing.T) {
	l := between()
	for _, x := range []struct {
		name  string
		items []api.Item
		falls [][]int // nil where there is an error
		at    int
		run   api.Errno
		check api.Errno
	}{
		{"nothing", nil, nil, 0, api.OK, api.ErrOrder},
		{"all", append([]api.Item{hole(l, 0, 0)}, outlines(l, 0, 1, 2)...), [][]int{nil, {0}, {1}, {2}}, 0, api.OK, api.OK},
		{"the hole in between", []api.Item{outline(l, 2, 0), hole(l, 0, 0), outline(l, 1, 0), outline(l, 0, 0)}, [][]int{{2}, nil, {1}, {0}}, 0, api.OK, api.OK},
		{"all, held by joints", []api.Item{hole(l, 0, 0), outline(l, 0, 1), outline(l, 1, 4), outline(l, 2, 2)}, [][]int{nil, nil, nil, nil}, 0, api.OK, api.OK},
		{"all but an outline", append([]api.Item{hole(l, 0, 0)}, outlines(l, 0, 1)...), [][]int{nil, {0}, {1}}, 0, api.OK, api.ErrOrder},
		{"all but the first outline", append([]api.Item{hole(l, 0, 0)}, outlines(l, 1, 2)...), [][]int{nil, {1}, {2}}, 0, api.OK, api.ErrOrder},
		{"all but a hole and its outline", outlines(l, 1, 2), [][]int{{1}, {2}}, 0, api.OK, api.ErrOrder},
		{"no hole", outlines(l, 0, 1, 2), nil, 0, api.ErrOrder, api.ErrOrder},
		{"no hole, at the end", outlines(l, 1, 2, 0), nil, 2, api.ErrOrder, api.ErrOrder},
		{"the hole twice", []api.Item{hole(l, 0, 0), hole(l, 0, 0)}, nil, 1, api.ErrOrder, api.ErrOrder},
		{"the hole of a piece that has fallen", []api.Item{hole(l, 0, 0), outline(l, 0, 0), hole(l, 0, 0)}, nil, 2, api.ErrOrder, api.ErrOrder},
		{"an outline twice", outlines(l, 1, 2, 1), nil, 2, api.ErrOrder, api.ErrOrder},
		{"an outline twice, with joints", []api.Item{outline(l, 1, 1), outline(l, 1, 0)}, nil, 1, api.ErrOrder, api.ErrOrder},
		{"the first error counts", []api.Item{outline(l, 1, 0), {Piece: 2, Hole: -1}, {Piece: -1}}, nil, 1, api.ErrLead, api.ErrLead},
		{"the first error counts, after a joint", []api.Item{outline(l, 1, 1), {Piece: -1}, {Piece: 2, Hole: -1}}, nil, 1, api.ErrArg, api.ErrArg},
		{"an error at the beginning", []api.Item{{Piece: 0, Hole: 1}, outline(l, 1, 0)}, nil, 0, api.ErrArg, api.ErrArg},
		{"128 items", slices.Repeat(outlines(l, 1), api.MaxItems), nil, 1, api.ErrOrder, api.ErrOrder},
		{"129 items", slices.Repeat(outlines(l, 1), api.MaxItems+1), nil, 0, api.ErrLarge, api.ErrLarge},
		{"very many items", make([]api.Item, 100000), nil, 0, api.ErrLarge, api.ErrLarge},
	} {
		st, at, e := cut.Run(l, x.items)
		if at != x.at || e != x.run || (e != api.OK) != isZero(st) {
			t.Error("Run", x.name, st, at, e)
		}
		if e == api.OK && !sameState(st, oneByOne(t, l, x.items)) {
			t.Error("Run", x.name, st)
		}
		if e := cut.Check(l, x.items); e != x.check {
			t.Error("Check", x.name, e)
		}
		if falls, e := cut.Falls(l, x.items); e != x.run || !slices.EqualFunc(falls, x.falls, slices.Equal) {
			t.Error("Falls", x.name, falls, e)
		}
		if n, e := cut.Length(l, x.items); e != x.check || (e == api.OK) != (n == 10*side+180) {
			t.Error("Length", x.name, n, e)
		}
	}
	if e := cut.Check(layout(), nil); e != api.OK {
		t.Error(e)
	}
	if e := cut.Check(layout(), []api.Item{{Hole: -1}}); e != api.ErrArg {
		t.Error(e)
	}
}

// oneByOne returns the state after items by Start and Do.
func oneByOne(t *testing.T, l api.Layout, items []api.Item) cut.State {
	t.Helper()
	st := start(t, l)
	for _, x := range items {
		next, e := cut.Do(l, st, x)
		if e != api.OK {
			t.Fatal(l, st, x, e)
		}
		st = next
	}
	return st
}

// TestFallsBetween holds that a piece between four others falls with the last one of them, whichever it is, unless it is held by a joint.
func TestFallsBetween(t *testing.T) {
	l := layout(square(1, 1), square(0, 1), square(2, 1), square(1, 0), square(1, 2))
	for last := 1; last <= 4; last++ {
		order := slices.DeleteFunc([]int{1, 2, 3, 4}, func(i int) bool { return i == last })
		items := outlines(l, append(order, last)...)
		falls, e := cut.Falls(l, items)
		if e != api.OK || !slices.EqualFunc(falls, [][]int{{order[0]}, {order[1]}, {order[2]}, {0, last}}, slices.Equal) {
			t.Error(last, falls, e)
		}
		if _, at, e := cut.Run(l, append(items, outline(l, 0, 0))); at != 4 || e != api.ErrOrder {
			t.Error(last, at, e)
		}
		// If the last one is held itself, the piece falls alone.
		items[3].Joints = 1
		if falls, e := cut.Falls(l, items); e != api.OK || !slices.Equal(falls[3], []int{0}) {
			t.Error(last, falls, e)
		}
		// The piece is done with a joint before, or without one.
		if falls, e := cut.Falls(l, slices.Insert(slices.Clone(items), 3, outline(l, 0, 2))); e != api.OK || len(falls[3]) != 0 || len(falls[4]) != 0 {
			t.Error(last, falls, e)
		}
		if falls, e := cut.Falls(l, slices.Insert(slices.Clone(items), 3, outline(l, 0, 0))); e != api.OK || !slices.Equal(falls[3], []int{0}) || len(falls[4]) != 0 {
			t.Error(last, falls, e)
		}
	}
	// Three pieces in a row fall at once, with the one in the middle.
	bracket := piece(rect(4*side, side, side, side), rect(5*side, side, side, 3*side), rect(4*side, 3*side, side, side))
	l = layout(square(1, 1), square(0, 1), square(2, 1), square(1, 0), square(1, 2), square(3, 1), bracket)
	if falls, e := cut.Falls(l, outlines(l, 1, 3, 4, 6, 2)); e != api.OK || !slices.Equal(falls[4], []int{0, 2, 5}) {
		t.Error(falls, e)
	}
}

// TestArgumentsStay holds that no function changes its arguments or returns their memory, and that equal calls return the same.
func TestArgumentsStay(t *testing.T) {
	l := between()
	l.Sheet.Used = []api.Rect{rect(0, 9*side, side, side)}
	l.Pieces[0].Forms = []api.Rect{rect(2*side+300, side+300, 9, 9)}
	items, st := append([]api.Item{hole(l, 0, 0)}, outlines(l, 0, 2, 1)...), start(t, l)
	square := piece(rect(0, 0, side, side))
	square.Cuts, square.Forms = []api.Rect{rect(9, 9, 9, 9)}, []api.Rect{rect(99, 99, 9, 9)}
	sheets, pieces, places := []api.Sheet{l.Sheet}, []api.Piece{square, square}, []api.Placement{{Piece: 1}, {X: side}}
	copies := func() []any {
		return []any{deep(l), slices.Clone(items), copyState(st), deep(api.Layout{Sheet: sheets[0], Pieces: pieces}), slices.Clone(places)}
	}
	before := copies()
	call := func() []any {
		put, _ := cut.LayoutOf(sheets, pieces, api.Settings{}, places, 0)
		edges, _ := cut.Edges(l)
		first, _ := cut.Start(l)
		next, _ := cut.Do(l, st, items[0])
		last, at, e := cut.Run(l, items)
		falls, _ := cut.Falls(l, items)
		plan, _ := cut.Plan(l)
		n, _ := cut.Length(l, items)
		return []any{put, edges, first, next, last, at, e, falls, plan, n, cut.Check(l, items), cut.Validate(l), cut.Small(l.Pieces[0]), cut.InRegion(l.Sheet.Clamps, api.Spot{})}
	}
	first := call()
	if second := call(); !reflect.DeepEqual(first, second) {
		t.Error(first, second)
	}
	for _, result := range first {
		switch y := result.(type) {
		case api.Layout:
			clear(y.Sheet.Clamps)
			clear(y.Sheet.Used)
			for _, x := range y.Pieces {
				clear(x.Rects)
				clear(x.Cuts)
				clear(x.Forms)
			}
		case cut.State:
			clear(y.Cut)
			clear(y.Done)
			clear(y.Joints)
			clear(y.Fallen)
			for _, l := range y.Holes {
				clear(l)
			}
		}
	}
	if after := copies(); !reflect.DeepEqual(before, after) {
		t.Error(before, after)
	}
	// The state that Do was given and the one that it returned are changed without one another.
	full := copyState(st)
	next, _ := cut.Do(l, full, items[0])
	next.Cut[0], next.Holes[0][0], next.Done[0], next.Joints[0], next.Fallen[0] = true, true, true, 1, true
	if !sameState(full, st) {
		t.Error(full)
	}
}

// deep returns a copy of a layout with its lists.
func deep(l api.Layout) api.Layout {
	l.Sheet.Clamps, l.Sheet.Used, l.Pieces = slices.Clone(l.Sheet.Clamps), slices.Clone(l.Sheet.Used), slices.Clone(l.Pieces)
	for i, x := range l.Pieces {
		l.Pieces[i].Rects, l.Pieces[i].Cuts, l.Pieces[i].Forms = slices.Clone(x.Rects), slices.Clone(x.Cuts), slices.Clone(x.Forms)
	}
	return l
}

// cell is the side of the squares of which random layouts are made: three of them are as wide as a piece that is not small.
const cell = side / 3

// pinwheel returns a layout of four bars around four squares, of which some may be missing, in any order.
func pinwheel(r *rand.Rand) api.Layout {
	l := api.Layout{Sheet: sheet(5*side, 5*side)}
	for _, f := range []api.Rect{rect(0, 0, 3, 1), rect(3, 0, 1, 3), rect(1, 3, 3, 1), rect(0, 1, 1, 3), rect(1, 1, 1, 1), rect(2, 1, 1, 1), rect(1, 2, 1, 1), rect(2, 2, 1, 1)} {
		if r.Intn(9) > 0 {
			l.Pieces = append(l.Pieces, piece(rect(f.X*side, f.Y*side, f.W*side, f.H*side)))
		}
	}
	r.Shuffle(len(l.Pieces), func(i, j int) { l.Pieces[i], l.Pieces[j] = l.Pieces[j], l.Pieces[i] })
	return l
}

// randomLayout returns a layout of cells with up to eight pieces, many of which touch or lie between others.
func randomLayout(r *rand.Rand) api.Layout {
	size, unit := 8, cell
	switch r.Intn(3) {
	case 0:
		return pinwheel(r)
	case 1:
		size, unit = 4, side
	}
	l := api.Layout{Sheet: sheet(size*unit, size*unit)}
	random := func(longest int) api.Rect {
		x, y := r.Intn(size), r.Intn(size)
		return rect(x*unit, y*unit, (1+r.Intn(min(longest, size-x)))*unit, (1+r.Intn(min(longest, size-y)))*unit)
	}
	for range r.Intn(3) {
		l.Sheet.Clamps = append(l.Sheet.Clamps, random(size/4))
	}
	for range r.Intn(2) {
		l.Sheet.Used = append(l.Sheet.Used, random(size/4))
	}
	for range 60 {
		x := piece()
		for range 1 + r.Intn(3) {
			f := random(size / 2)
			x.Rects = append(x.Rects, f)
			if r.Intn(3) == 0 {
				x.Cuts = append(x.Cuts, rect(f.X+100, f.Y+100, 2+r.Intn(900), 2+r.Intn(900)))
			}
		}
		next := l
		next.Pieces = append(slices.Clone(l.Pieces), x)
		if cut.Validate(next) == api.OK {
			l = next
		}
	}
	return l
}

// cellsOf returns the piece of each cell of a random layout, by its lower left corner. Cells that are in no piece are not in the map.
func cellsOf(l api.Layout) map[api.Spot]int {
	cells := map[api.Spot]int{}
	for i, x := range l.Pieces {
		for _, f := range x.Rects {
			for a := f.X; a < f.X+f.W; a += cell {
				for b := f.Y; b < f.Y+f.H; b += cell {
					cells[api.Spot{X: a, Y: b}] = i
				}
			}
		}
	}
	return cells
}

// shop is what a random layout is cut in by TestDoByCells: it has the sides of the cells that are on a border of each piece, and those that are cut.
type shop struct {
	l       api.Layout
	borders []map[api.Segment]bool
	cut     map[api.Segment]bool
	st      cut.State // without Cut
}

func newShop(l api.Layout) shop {
	n := len(l.Pieces)
	s := shop{l: l, cut: map[api.Segment]bool{}, st: cut.State{Done: make([]bool, n), Joints: make([]int, n), Fallen: make([]bool, n)}}
	for _, x := range l.Pieces {
		s.st.Holes = append(s.st.Holes, make([]bool, len(x.Cuts)))
		s.borders = append(s.borders, map[api.Segment]bool{})
	}
	cells := cellsOf(l)
	for c, i := range cells {
		for other, line := range map[api.Spot]api.Segment{
			{X: c.X - cell, Y: c.Y}: {X1: c.X, Y1: c.Y, X2: c.X, Y2: c.Y + cell},
			{X: c.X + cell, Y: c.Y}: {X1: c.X + cell, Y1: c.Y, X2: c.X + cell, Y2: c.Y + cell},
			{X: c.X, Y: c.Y - cell}: {X1: c.X, Y1: c.Y, X2: c.X + cell, Y2: c.Y},
			{X: c.X, Y: c.Y + cell}: {X1: c.X, Y1: c.Y + cell, X2: c.X + cell, Y2: c.Y + cell},
		} {
			if j, found := cells[other]; !found || j != i {
				s.borders[i][line] = true
			}
		}
	}
	return s
}

// left returns the sides of cells on the border of a piece that are not cut.
func (s shop) left(i int) []api.Segment {
	var l []api.Segment
	for line := range s.borders[i] {
		if !s.cut[line] {
			l = append(l, line)
		}
	}
	return l
}

// refusal is P7.5 in its own words, for items that name something that there is.
func (s shop) refusal(x api.Item) api.Errno {
	p := s.l.Pieces[x.Piece]
	if x.Hole >= 0 {
		r := p.Cuts[x.Hole]
		switch {
		case x.Joints != 0:
			return api.ErrArg
		case s.st.Fallen[x.Piece] || s.st.Holes[x.Piece][x.Hole]:
			return api.ErrOrder
		case x.Lead.X <= r.X || x.Lead.X >= r.X+r.W || x.Lead.Y <= r.Y || x.Lead.Y >= r.Y+r.H:
			return api.ErrLead
		}
		return api.OK
	}
	left := s.left(x.Piece)
	switch {
	case s.st.Fallen[x.Piece] || s.st.Done[x.Piece] || slices.Contains(s.st.Holes[x.Piece], false) || len(left) == 0:
		return api.ErrOrder
	case x.Joints == 0 && cut.Small(p):
		return api.ErrJoint
	case x.Lead.X < 0 || x.Lead.Y < 0 || x.Lead.X > s.l.Sheet.Width || x.Lead.Y > s.l.Sheet.Height || cut.InRegion(s.l.Sheet.Clamps, x.Lead):
		return api.ErrLead
	}
	for _, other := range s.l.Pieces {
		if cut.InRegion(other.Rects, x.Lead) {
			return api.ErrLead
		}
	}
	for _, line := range left {
		if line.X1-x.Lead.X <= near && x.Lead.X-line.X2 <= near && line.Y1-x.Lead.Y <= near && x.Lead.Y-line.Y2 <= near {
			return api.OK
		}
	}
	return api.ErrLead
}

// do does an item that is not refused, and returns the pieces that fall.
func (s shop) do(x api.Item) []int {
	if x.Hole >= 0 {
		s.st.Holes[x.Piece][x.Hole] = true
		return nil
	}
	s.st.Done[x.Piece], s.st.Joints[x.Piece] = true, x.Joints
	for line := range s.borders[x.Piece] {
		s.cut[line] = true
	}
	var falls []int
	for i := range s.l.Pieces {
		if !s.st.Fallen[i] && !(s.st.Done[i] && s.st.Joints[i] > 0) && len(s.left(i)) == 0 {
			s.st.Fallen[i] = true
			falls = append(falls, i)
		}
	}
	return falls
}

// randomItem returns an item of a layout with pieces; not all of them are right.
func randomItem(r *rand.Rand, l api.Layout) api.Item {
	x := api.Item{Piece: r.Intn(len(l.Pieces)), Hole: -1}
	p := l.Pieces[x.Piece]
	if len(p.Cuts) > 0 && r.Intn(2) == 0 {
		x.Hole = r.Intn(len(p.Cuts))
		c := p.Cuts[x.Hole]
		x.Lead = api.Spot{X: c.X + 1 + r.Intn(c.W), Y: c.Y + 1}
		return x
	}
	f := p.Rects[r.Intn(len(p.Rects))]
	x.Lead = api.Spot{X: f.X + r.Intn(6)*cell/2, Y: f.Y}
	if r.Intn(4) == 0 {
		x.Lead = api.Spot{X: (r.Intn(22) - 2) * cell / 2, Y: (r.Intn(22) - 2) * cell / 2}
	}
	x.Joints = max(0, r.Intn(8)-3)
	return x
}

// TestDoByCells holds Do, Run and Falls against a simulation that knows of no edges.
func TestDoByCells(t *testing.T) {
	r := rand.New(rand.NewSource(75))
	met, fallen, together := map[api.Errno]int{}, 0, 0
	for range 300 {
		l := randomLayout(r)
		if len(l.Pieces) == 0 {
			continue
		}
		edges, e := cut.Edges(l)
		if e != api.OK {
			t.Fatal(l, e)
		}
		s, st := newShop(l), start(t, l)
		var items []api.Item
		var falls [][]int
		for range 40 {
			x := randomItem(r, l)
			want := s.refusal(x)
			met[want]++
			next, e := cut.Do(l, st, x)
			if e != want {
				t.Fatal(l, items, x, e, want)
			}
			if _, at, e := cut.Run(l, append(slices.Clone(items), x)); e != want || e != api.OK && at != len(items) {
				t.Fatal(l, items, x, at, e, want)
			}
			if e != api.OK {
				continue
			}
			st, items, falls = next, append(items, x), append(falls, s.do(x))
			fallen += len(falls[len(falls)-1])
			if len(falls[len(falls)-1]) > 1 {
				together++
			}
			for i, edge := range edges {
				a, b := api.Spot{X: edge.Line.X1, Y: edge.Line.Y1}, api.Spot{X: edge.Line.X1 + cell, Y: edge.Line.Y1}
				if edge.Line.X1 == edge.Line.X2 {
					b = api.Spot{X: a.X, Y: a.Y + cell}
				}
				if st.Cut[i] != s.cut[api.Segment{X1: a.X, Y1: a.Y, X2: b.X, Y2: b.Y}] {
					t.Fatal(l, items, edge)
				}
			}
			withoutCut := copyState(st)
			withoutCut.Cut = nil
			if !sameState(withoutCut, s.st) {
				t.Fatal(l, items, st, s.st)
			}
		}
		if got, e := cut.Falls(l, items); e != api.OK || !slices.EqualFunc(got, falls, slices.Equal) {
			t.Error(l, items, got, falls, e)
		}
		if end, _, e := cut.Run(l, items); e != api.OK || !sameState(end, st) {
			t.Error(l, items, end, st, e)
		}
	}
	if met[api.OK] < 500 || met[api.ErrOrder] < 500 || met[api.ErrJoint] < 100 || met[api.ErrLead] < 100 || fallen < 200 || together < 5 {
		t.Error("too few", met, fallen, together)
	}
}
