package program

import (
	"slices"

	"sheetmetal/api"
	"sheetmetal/brake"
	"sheetmetal/flat"
	"sheetmetal/part"
	"sheetmetal/setup"
)

// empty stands for the pair of a station that holds none.
const empty = -1

// BendOps returns the program for a sequence of bends and changes of tools.
func BendOps(p api.Part, m api.Machine, opening int, steps []api.Step, changes []api.Change) ([]api.Op, api.Errno) {
	needs, e := setup.Options(p, m, opening, steps)
	if e != api.OK {
		return nil, e
	}
	if e := setup.Check(needs, m.Stations, changes); e != api.OK {
		return nil, e
	}
	var ops []api.Op
	for i, s := range steps {
		for _, c := range changes {
			if c.Step == i {
				ops = append(ops, api.Op{Kind: api.OpMount, X: c.Station, N: c.Pair})
			}
		}
		mounted, e := setup.Mounted(needs, m.Stations, changes, i)
		if e != api.OK {
			return nil, e
		}
		ops = append(ops, api.Op{Kind: api.OpBend, N: s.Flange, X: s.Held, Y: s.Align, W: firstOf(mounted, needs[i])})
	}
	return ops, api.OK
}

// firstOf returns the first mounted pair that is in a need.
func firstOf(mounted, need []int) int {
	for _, pair := range mounted {
		if slices.Contains(need, pair) {
			return pair
		}
	}
	return empty
}

// Model returns the faces of a part in ticks, with the flanges of the mask bent.
func Model(p api.Part, mask int) ([]api.Face, api.Errno) {
	l, e := part.Faces(p, mask)
	if e != api.OK {
		return nil, e
	}
	for i, f := range l {
		l[i].Origin, l[i].W, l[i].H = times(api.Scale, f.Origin), f.W*api.Scale, f.H*api.Scale
	}
	return l, api.OK
}

// press is the simulator of a press brake.
type press struct {
	part    api.Part
	machine api.Machine
	opening int
	mask    int   // the flanges that are bent
	mounted []int // by station, its pair
}

// RunBend executes a program on the brake and returns the faces that the part has at the end, and the mask of its bent flanges.
func RunBend(p api.Part, t api.BendTable, m api.Machine, from int, ops []api.Op) ([]api.Face, int, api.Errno) {
	f, e := patternOf(p, t, m)
	if e != api.OK {
		return nil, 0, e
	}
	if !within(from, 0, fullMask(p.Flanges)) {
		return nil, 0, api.ErrArg
	}
	b := press{part: p, machine: m, opening: t.Die, mask: from, mounted: slices.Repeat([]int{empty}, m.Stations)}
	if e := execute(ops, b.do); e != api.OK {
		return nil, 0, e
	}
	l, e := Fold(f, b.mask)
	if e != api.OK {
		return nil, 0, e
	}
	return l, b.mask, api.OK
}

// CheckBend reports whether a program bends the part as the model is.
func CheckBend(p api.Part, t api.BendTable, m api.Machine, ops []api.Op) (bool, api.Errno) {
	if _, e := patternOf(p, t, m); e != api.OK {
		return false, e
	}
	made, _, e := RunBend(p, t, m, 0, ops)
	if e != api.OK {
		return false, api.OK
	}
	want, e := Model(p, fullMask(p.Flanges))
	return e == api.OK && slices.Equal(made, want), api.OK
}

// patternOf returns the flat pattern of a part that is to be bent on a machine.
func patternOf(p api.Part, t api.BendTable, m api.Machine) (api.Flat, api.Errno) {
	if e := part.Validate(p); e != api.OK {
		return api.Flat{}, e
	}
	if e := flat.Validate(t); e != api.OK {
		return api.Flat{}, e
	}
	if e := brake.Validate(m); e != api.OK {
		return api.Flat{}, e
	}
	return flat.Unfold(p, t)
}

// do does an operation, or returns why it is refused.
func (b *press) do(o api.Op) error {
	switch o.Kind {
	case api.OpMount:
		return b.mount(o.X, o.N)
	case api.OpBend:
		return b.bend(o)
	}
	return refusal("a brake has no such operation")
}

func (b *press) mount(station, pair int) error {
	if !within(station, 0, b.machine.Stations-1) || !b.isPair(pair) {
		return refusal("there is no such station or pair")
	}
	b.mounted[station] = pair
	return nil
}

func (b *press) bend(o api.Op) error {
	if !b.isPair(o.W) || !slices.Contains(b.mounted, o.W) {
		return refusal("the pair is not mounted")
	}
	dies := len(b.machine.Dies)
	s := api.Step{Flange: o.N, Held: o.X, Align: o.Y, Punch: o.W / dies, Die: o.W % dies}
	if result, e := brake.Examine(b.part, b.machine, b.opening, b.mask, s); e != api.OK || result != brake.Feasible {
		return refusal("the step is not feasible")
	}
	b.mask |= 1 << o.N
	return nil
}

// isPair reports whether n is the number of a pair of the machine.
func (b *press) isPair(n int) bool {
	return within(n, 0, len(b.machine.Punches)*len(b.machine.Dies)-1)
}
