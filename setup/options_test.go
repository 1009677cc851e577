package setup_test

import (
	"reflect"
	"slices"
	"testing"

	"sheetmetal/api"
	"sheetmetal/brake"
	"sheetmetal/setup"
)

// channel is a base with flanges of length 20 at its east and west sides, bent up.
func channel() api.Part {
	return api.Part{Name: "u", Material: "steel", Gauge: 10, Width: 40, Height: 30, Flanges: []api.Flange{
		{Name: "a", Side: api.East, Width: 30, Length: 20, Angle: 90},
		{Name: "b", Side: api.West, Width: 30, Length: 20, Angle: 90},
	}}
}

// spots returns the spots with the coordinates, X and Y of each in turn.
func spots(l ...int) []api.Spot {
	var result []api.Spot
	for xy := range slices.Chunk(l, 2) {
		result = append(result, api.Spot{X: xy[0], Y: xy[1]})
	}
	return result
}

func punch(name string, length int, l ...int) api.Punch {
	return api.Punch{Name: name, Length: length, Polygons: [][]api.Spot{spots(l...)}}
}

func die(name string, width, length int) api.Die {
	return api.Die{Name: name, Width: width, Length: length, Polygons: [][]api.Spot{spots(-4, 0, 4, 0, 0, -8)}}
}

// slim is a punch that nothing hits.
func slim() api.Punch {
	return punch("slim", 200, 0, 0, -5, 30, -10, 30)
}

// wide is a punch that a flange hits while it is turned.
func wide() api.Punch {
	return punch("wide", 200, 0, 0, 10, 30, -10, 30)
}

// hook is a punch that reaches over the held side, and so into a flange that is bent there.
func hook() api.Punch {
	return punch("hook", 200, 0, 0, -50, 15, -50, 16)
}

func machine(punches []api.Punch, dies []api.Die) api.Machine {
	return api.Machine{Name: "m", Punches: punches, Dies: dies, Gauge: spots(0, -5, 0, 5, -9, 5, -9, -5), GaugeMax: 100, Stations: 2}
}

// plain is a machine with one punch and one die.
func plain() api.Machine {
	return machine([]api.Punch{slim()}, []api.Die{die("d", 8, 200)})
}

// sequence bends a, which is held, and then b.
func sequence() []api.Step {
	return []api.Step{{Held: 1}, {Flange: 1}}
}

func TestOptions(t *testing.T) {
	d, narrow, short := die("d", 8, 200), die("n", 7, 200), die("s", 8, 29)
	exact := die("e", 8, 30)
	for _, x := range []struct {
		name string
		m    api.Machine
		l    []api.Step
		want [][]int
	}{
		{"one pair", plain(), sequence(), [][]int{{0}, {0}}},
		{"another order", plain(), []api.Step{{Flange: 1, Held: 1}, {}}, [][]int{{0}, {0}}},
		{"a punch that is hit", machine([]api.Punch{slim(), wide()}, []api.Die{d}), sequence(), [][]int{{0}, {0}}},
		{"a punch that is too short", machine([]api.Punch{punch("s", 29, 0, 0, -5, 30, -10, 30), slim()}, []api.Die{d}),
			[]api.Step{{Held: 1, Punch: 1}, {Flange: 1, Punch: 1}}, [][]int{{1}, {1}}},
		{"dies of another opening or length", machine([]api.Punch{slim()}, []api.Die{narrow, d, short}),
			[]api.Step{{Held: 1, Die: 1}, {Flange: 1, Die: 1}}, [][]int{{1}, {1}}},
		{"two dies", machine([]api.Punch{slim()}, []api.Die{d, exact}), sequence(), [][]int{{0, 1}, {0, 1}}},
		{"two dies, each used once", machine([]api.Punch{slim()}, []api.Die{d, exact}),
			[]api.Step{{Held: 1}, {Flange: 1, Die: 1}}, [][]int{{0, 1}, {0, 1}}},
		{"a punch that is hit by what is bent", machine([]api.Punch{slim(), hook()}, []api.Die{d}), sequence(), [][]int{{0, 1}, {0}}},
		{"two punches, three dies", machine([]api.Punch{hook(), slim()}, []api.Die{d, narrow, exact}),
			[]api.Step{{Held: 1, Punch: 1}, {Flange: 1, Punch: 1, Die: 2}}, [][]int{{0, 2, 3, 5}, {3, 5}}},
		{"three punches, two dies", machine([]api.Punch{wide(), hook(), slim()}, []api.Die{narrow, d}),
			[]api.Step{{Held: 1, Punch: 1, Die: 1}, {Flange: 1, Punch: 2, Die: 1}}, [][]int{{3, 5}, {5}}},
		{"nine pairs", machine([]api.Punch{slim(), hook(), punch("t", 30, 0, 0, -5, 30, -10, 30)}, []api.Die{d, exact, die("f", 8, 60)}),
			[]api.Step{{Held: 1, Punch: 1, Die: 1}, {Flange: 1, Punch: 2, Die: 2}}, [][]int{{0, 1, 2, 3, 4, 5, 6, 7, 8}, {0, 1, 2, 6, 7, 8}}},
	} {
		got, e := setup.Options(channel(), x.m, 8, x.l)
		if e != api.OK || !reflect.DeepEqual(got, x.want) {
			t.Error(x.name, got, e)
		}
		if e := setup.Validate(got); e != api.OK {
			t.Error(x.name, "no needs", got, e)
		}
		for i, s := range x.l {
			if !slices.Contains(got[i], s.Punch*len(x.m.Dies)+s.Die) {
				t.Error(x.name, "without its own pair", got, i)
			}
		}
	}
	flat := channel()
	flat.Flanges = nil
	if got, e := setup.Options(flat, plain(), 8, nil); e != api.OK || len(got) != 0 {
		t.Error("no flanges", got, e)
	}
}

// TestOptionsAfterSteps holds that all steps before a step count: the first of three is still in the way of the last.
func TestOptionsAfterSteps(t *testing.T) {
	p := channel()
	p.Flanges = append(p.Flanges, api.Flange{Name: "c", Side: api.North, Width: 40, Length: 8, Angle: 90})
	m := machine([]api.Punch{slim(), hook()}, []api.Die{die("d", 8, 200)})
	m.Punches[0].Length, m.Punches[1].Length = 40, 40
	l := []api.Step{{Held: 1}, {Flange: 2}, {Flange: 1, Align: 1}}
	if got, e := setup.Options(p, m, 8, l); e != api.OK || !reflect.DeepEqual(got, [][]int{{0, 1}, {0, 1}, {0}}) {
		t.Error(got, e)
	}
}

// TestOptionsOfPlans holds that the pairs of each step are those with which the sequence is accepted by CheckSequence.
func TestOptionsOfPlans(t *testing.T) {
	p := channel()
	p.Height = 60
	p.Flanges = append(p.Flanges, api.Flange{Name: "c", Parent: 1, Side: api.North, Width: 30, Length: 8, Angle: 90},
		api.Flange{Name: "d", Side: api.North, Width: 40, Length: 12, Angle: -90})
	m := machine([]api.Punch{slim(), hook(), wide()}, []api.Die{die("n", 7, 200), die("d", 8, 200), die("s", 8, 35)})
	l, found, e := brake.Plan(p, m, 8, 0)
	if !found || e != api.OK {
		t.Fatal(l, found, e)
	}
	got, e := setup.Options(p, m, 8, l)
	if e != api.OK || len(got) != len(l) {
		t.Fatal(l, got, e)
	}
	for i := range l {
		for pair := range 9 {
			other := slices.Clone(l)
			other[i].Punch, other[i].Die = pair/3, pair%3
			if _, e := brake.CheckSequence(p, m, 8, 0, other); slices.Contains(got[i], pair) != (e == api.OK) {
				t.Error(l, got, i, pair, e)
			}
		}
	}
}

func TestErrorsOfOptions(t *testing.T) {
	noPart, noMachine := channel(), plain()
	noPart.Name, noMachine.Stations = "", 0
	for _, x := range []struct {
		name    string
		p       api.Part
		m       api.Machine
		opening int
		l       []api.Step
		want    api.Errno
	}{
		{"no part", noPart, plain(), 8, sequence(), api.ErrName},
		{"no part, no machine", noPart, noMachine, 8, nil, api.ErrName},
		{"no machine", channel(), noMachine, 8, sequence(), api.ErrTool},
		{"no machine, a wrong step", channel(), noMachine, 8, []api.Step{{Flange: 2}}, api.ErrTool},
		{"nothing", api.Part{}, api.Machine{}, 0, nil, api.ErrName},
		{"no step", channel(), plain(), 8, nil, api.ErrOrder},
		{"half of it", channel(), plain(), 8, sequence()[:1], api.ErrOrder},
		{"a is held by the base", channel(), plain(), 8, []api.Step{{}, {Flange: 1}}, api.ErrStep},
		{"only a wrong step", channel(), plain(), 8, []api.Step{{}}, api.ErrStep},
		{"one too many", channel(), plain(), 8, append(sequence(), api.Step{}), api.ErrStep},
		{"no flange", channel(), plain(), 8, []api.Step{{Held: 1}, {Flange: 2}}, api.ErrStep},
		{"no punch", channel(), plain(), 8, []api.Step{{Held: 1, Punch: 1}, {Flange: 1}}, api.ErrStep},
		{"no die", channel(), plain(), 8, []api.Step{{Held: 1}, {Flange: 1, Die: -1}}, api.ErrStep},
		{"another opening", channel(), plain(), 9, sequence(), api.ErrStep},
		{"far numbers", channel(), plain(), 8, []api.Step{{Held: 1, Punch: wild[0], Die: wild[9]}}, api.ErrStep},
		{"far flange", channel(), plain(), 8, []api.Step{{Held: 1}, {Flange: wild[9]}}, api.ErrStep},
		{"far opening", channel(), plain(), wild[0], sequence(), api.ErrStep},
	} {
		if got, e := setup.Options(x.p, x.m, x.opening, x.l); len(got) != 0 || e != x.want {
			t.Error(x.name, got, e)
		}
	}
}

func TestOptionsChangesNothing(t *testing.T) {
	p, m, l := channel(), machine([]api.Punch{slim(), hook()}, []api.Die{die("d", 8, 200), die("e", 8, 200)}), sequence()
	first, _ := setup.Options(p, m, 8, l)
	if !reflect.DeepEqual(p, channel()) || !slices.Equal(l, sequence()) || m.Punches[1].Name != "hook" {
		t.Error(p, m, l)
	}
	second, _ := setup.Options(p, m, 8, l)
	first[0][0] = 7
	if !reflect.DeepEqual(second, [][]int{{0, 1, 2, 3}, {0, 1}}) {
		t.Error(first, second)
	}
}
