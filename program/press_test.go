package program_test

import (
	"math/rand"
	"slices"
	"testing"

	"sheetmetal/api"
	"sheetmetal/brake"
	"sheetmetal/flat"
	"sheetmetal/part"
	"sheetmetal/program"
	"sheetmetal/setup"
)

// spots returns the spots with the coordinates, X and Y of each in turn.
func spots(l ...int) []api.Spot {
	var result []api.Spot
	for xy := range slices.Chunk(l, 2) {
		result = append(result, api.Spot{X: xy[0], Y: xy[1]})
	}
	return result
}

func punch(name string, l ...int) api.Punch {
	return api.Punch{Name: name, Length: 200, Polygons: [][]api.Spot{spots(l...)}}
}

func die(name string, width int) api.Die {
	return api.Die{Name: name, Width: width, Length: 200, Polygons: [][]api.Spot{spots(-4, 0, 4, 0, 0, -8)}}
}

// machine has two stations, a punch that nothing hits and one that reaches over the held side, a die of the table's opening and one of another. The pairs with the right die are 0 and 2.
func machine() api.Machine {
	return api.Machine{Name: "m",
		Punches:  []api.Punch{punch("slim", 0, 0, -5, 30, -10, 30), punch("hook", 0, 0, -50, 15, -50, 16)},
		Dies:     []api.Die{die("d", 8), die("n", 7)},
		Gauge:    spots(0, -5, 0, 5, -9, 5, -9, -5),
		GaugeMax: 100, Stations: 2}
}

// sequence bends a, which is held, and then b. At the second step the hook is in the way of a.
func sequence() []api.Step {
	return []api.Step{{Held: 1}, {Flange: 1}}
}

func TestBendOps(t *testing.T) {
	for _, x := range []struct {
		name    string
		changes []api.Change
		want    []api.Op
	}{
		{"one pair", []api.Change{{}}, []api.Op{mount(0, 0), bend(0, 1, 0, 0), bend(1, 0, 0, 0)}},
		{"the other station", []api.Change{{Station: 1}}, []api.Op{mount(1, 0), bend(0, 1, 0, 0), bend(1, 0, 0, 0)}},
		{"a pair that is not the step's own", []api.Change{{Pair: 2}, {Step: 1, Station: 1}}, []api.Op{mount(0, 2), bend(0, 1, 0, 2), mount(1, 0), bend(1, 0, 0, 0)}},
		{"the first station that serves", []api.Change{{Station: 1, Pair: 2}, {Station: 0, Pair: 0}}, []api.Op{mount(1, 2), mount(0, 0), bend(0, 1, 0, 0), bend(1, 0, 0, 0)}},
		{"not the smallest pair", []api.Change{{Station: 0, Pair: 2}, {Station: 1, Pair: 0}}, []api.Op{mount(0, 2), mount(1, 0), bend(0, 1, 0, 2), bend(1, 0, 0, 0)}},
		{"a pair that does not serve comes first", []api.Change{{Station: 0, Pair: 1}, {Station: 1, Pair: 0}}, []api.Op{mount(0, 1), mount(1, 0), bend(0, 1, 0, 0), bend(1, 0, 0, 0)}},
		{"in the place of another", []api.Change{{Pair: 2}, {Step: 1, Pair: 0}}, []api.Op{mount(0, 2), bend(0, 1, 0, 2), mount(0, 0), bend(1, 0, 0, 0)}},
		{"changes that are not needed", []api.Change{{}, {Step: 1, Station: 1, Pair: 3}, {Step: 1}}, []api.Op{mount(0, 0), bend(0, 1, 0, 0), mount(1, 3), mount(0, 0), bend(1, 0, 0, 0)}},
	} {
		got, e := program.BendOps(channel(), machine(), 8, sequence(), x.changes)
		if e != api.OK || !slices.Equal(got, x.want) {
			t.Error(x.name, got, e)
		}
		if ok, e := program.CheckBend(channel(), table(), machine(), got); !ok || e != api.OK {
			t.Error(x.name, ok, e)
		}
	}
	aligned := []api.Step{{Flange: 1, Held: 1, Align: 1}, {Flange: 0, Align: 1}}
	if got, e := program.BendOps(channel(), machine(), 8, aligned, []api.Change{{}}); e != api.OK || !slices.Equal(got, []api.Op{mount(0, 0), bend(1, 1, 1, 0), bend(0, 0, 1, 0)}) {
		t.Error("aligned at the end", got, e)
	}
	narrow := []api.Step{{Held: 1, Die: 1}, {Flange: 1, Die: 1}}
	if got, e := program.BendOps(channel(), machine(), 7, narrow, []api.Change{{Pair: 1}}); e != api.OK || !slices.Equal(got, []api.Op{mount(0, 1), bend(0, 1, 0, 1), bend(1, 0, 0, 1)}) {
		t.Error("another opening", got, e)
	}
	plain := channel()
	plain.Flanges = nil
	if got, e := program.BendOps(plain, machine(), 8, nil, nil); e != api.OK || len(got) != 0 {
		t.Error("no flanges", got, e)
	}
}

func TestErrorsOfBendOps(t *testing.T) {
	noPart, noMachine := channel(), machine()
	noPart.Name, noMachine.Stations = "", 0
	one := []api.Change{{}}
	unordered := []api.Change{{Step: 1}, {}}
	for _, x := range []struct {
		name    string
		p       api.Part
		m       api.Machine
		opening int
		steps   []api.Step
		changes []api.Change
		want    api.Errno
	}{
		{"nothing", api.Part{}, api.Machine{}, 0, nil, nil, api.ErrName},
		{"no part", noPart, noMachine, 8, sequence()[:1], unordered, api.ErrName},
		{"no machine", channel(), noMachine, 8, sequence()[:1], unordered, api.ErrTool},
		{"a wrong step", channel(), machine(), 8, []api.Step{{}, {Flange: 1}}, unordered, api.ErrStep},
		{"another opening", channel(), machine(), 9, sequence(), one, api.ErrStep},
		{"half of it", channel(), machine(), 8, sequence()[:1], unordered, api.ErrOrder},
		{"no steps", channel(), machine(), 8, nil, nil, api.ErrOrder},
		{"not in order", channel(), machine(), 8, sequence(), unordered, api.ErrOrder},
		{"twice at one step", channel(), machine(), 8, sequence(), []api.Change{{}, {}}, api.ErrOrder},
		{"no such step", channel(), machine(), 8, sequence(), []api.Change{{}, {Step: 2}}, api.ErrOrder},
		{"no such station", channel(), machine(), 8, sequence(), []api.Change{{}, {Station: 2}}, api.ErrOrder},
		{"no such pair", channel(), machine(), 8, sequence(), []api.Change{{}, {Station: 1, Pair: api.MaxPairs}}, api.ErrOrder},
		{"nothing mounted", channel(), machine(), 8, sequence(), nil, api.ErrStep},
		{"mounted too late", channel(), machine(), 8, sequence(), []api.Change{{Step: 1}}, api.ErrStep},
		{"a pair that serves the first step only", channel(), machine(), 8, sequence(), []api.Change{{Pair: 2}}, api.ErrStep},
		{"a pair that serves no step", channel(), machine(), 8, sequence(), []api.Change{{Pair: 1}}, api.ErrStep},
		{"taken away", channel(), machine(), 8, sequence(), []api.Change{{}, {Step: 1, Pair: 2}}, api.ErrStep},
	} {
		if got, e := program.BendOps(x.p, x.m, x.opening, x.steps, x.changes); e != x.want || len(got) != 0 {
			t.Error(x.name, got, e)
		}
	}
	for _, n := range wild {
		for _, s := range []api.Step{{Flange: n}, {Held: n}, {Held: 1, Align: n}, {Held: 1, Punch: n}, {Held: 1, Die: n}} {
			if got, e := program.BendOps(channel(), machine(), 8, []api.Step{s, {Flange: 1}}, one); e != api.ErrStep || len(got) != 0 {
				t.Error(s, got, e)
			}
		}
		for _, c := range []api.Change{{Step: n}, {Station: n}, {Pair: n}} {
			if got, e := program.BendOps(channel(), machine(), 8, sequence(), []api.Change{c}); e != api.ErrOrder || len(got) != 0 {
				t.Error(c, got, e)
			}
		}
		if got, e := program.BendOps(channel(), machine(), n, sequence(), one); e != api.ErrStep || len(got) != 0 {
			t.Error(n, got, e)
		}
	}
	plain := channel()
	plain.Flanges = nil
	if got, e := program.BendOps(plain, machine(), 8, nil, one); e != api.ErrOrder || len(got) != 0 {
		t.Error("a change before no step", got, e)
	}
}

// TestPairsThatTheMachineHasNot shows that BendOps takes what setup.Check takes: the brake then refuses a change to a pair that it has not.
func TestPairsThatTheMachineHasNot(t *testing.T) {
	got, e := program.BendOps(channel(), machine(), 8, sequence(), []api.Change{{}, {Step: 1, Station: 1, Pair: 8}})
	if e != api.OK || !slices.Equal(got, []api.Op{mount(0, 0), bend(0, 1, 0, 0), mount(1, 8), bend(1, 0, 0, 0)}) {
		t.Error(got, e)
	}
	if ok, e := program.CheckBend(channel(), table(), machine(), got); ok || e != api.OK {
		t.Error(ok, e)
	}
}

// modelOf returns the faces of the model.
func modelOf(t *testing.T, p api.Part, mask int) []api.Face {
	t.Helper()
	l, e := program.Model(p, mask)
	if e != api.OK {
		t.Fatal(p, mask, e)
	}
	return l
}

func TestRunBend(t *testing.T) {
	for _, x := range []struct {
		name string
		from int
		ops  []api.Op
		mask int
	}{
		{"nothing", 0, nil, 0},
		{"nothing from a mask", 2, nil, 2},
		{"nothing from the full mask", 3, nil, 3},
		{"tools alone", 0, []api.Op{mount(0, 0), mount(1, 3), mount(0, 2), mount(0, 2)}, 0},
		{"one flange", 0, []api.Op{mount(0, 0), bend(0, 1, 0, 0)}, 1},
		{"the other flange", 0, []api.Op{mount(1, 0), bend(1, 1, 1, 0)}, 2},
		{"both", 0, []api.Op{mount(0, 0), bend(0, 1, 0, 0), bend(1, 0, 0, 0)}, 3},
		{"the rest", 1, []api.Op{mount(0, 0), bend(1, 0, 1, 0)}, 3},
		{"the hook", 0, []api.Op{mount(0, 2), bend(0, 1, 0, 2)}, 1},
		{"a pair on both stations", 0, []api.Op{mount(0, 0), mount(1, 0), mount(0, 1), bend(0, 1, 0, 0)}, 1},
		{"other fields are not looked at", 0, []api.Op{{Kind: api.OpMount, Y: wild[0], W: 7, H: wild[9]}, {Kind: api.OpBend, X: 1, H: wild[0]}}, 1},
		{"tools at the end", 1, []api.Op{mount(0, 0), bend(1, 0, 1, 0), mount(0, 1)}, 3},
	} {
		got, mask, e := program.RunBend(channel(), table(), machine(), x.from, x.ops)
		if e != api.OK || mask != x.mask || !slices.Equal(got, modelOf(t, channel(), x.mask)) {
			t.Error(x.name, got, mask, e)
		}
	}
}

func TestRefusedByTheBrake(t *testing.T) {
	ready := []api.Op{mount(0, 0)}
	for _, x := range []struct {
		name string
		ops  []api.Op
	}{
		{"no kind", []api.Op{{}}},
		{"a move", []api.Op{move(0, 0)}},
		{"a line", []api.Op{line(1, 0)}},
		{"a break", []api.Op{breaks(1, 0)}},
		{"a stamp", []api.Op{stamp(rect(0, 0, 1, 1))}},
		{"another kind", []api.Op{{Kind: 7}}},
		{"no such station", []api.Op{mount(2, 0)}},
		{"a negative station", []api.Op{mount(-1, 0)}},
		{"no such pair", []api.Op{mount(0, 4)}},
		{"a negative pair", []api.Op{mount(0, -1)}},
		{"nothing is mounted", []api.Op{bend(0, 1, 0, 0)}},
		{"no pair of an empty station", []api.Op{bend(0, 1, 0, -1)}},
		{"another pair is mounted", append(ready, bend(0, 1, 0, 2))},
		{"no longer mounted", []api.Op{mount(0, 0), mount(0, 2), bend(0, 1, 0, 0)}},
		{"a die of another opening", []api.Op{mount(0, 1), bend(0, 1, 0, 1)}},
		{"not within reach", append(ready, bend(0, 0, 0, 0), bend(0, 0, 0, 0))},
		{"twice", append(ready, bend(0, 1, 0, 0), bend(0, 1, 0, 0))},
		{"the hook hits what is bent", []api.Op{mount(0, 2), bend(0, 1, 0, 2), bend(1, 0, 0, 2)}},
		{"no such flange", append(ready, bend(2, 1, 0, 0))},
		{"a negative flange", append(ready, bend(-1, 1, 0, 0))},
		{"no such side", append(ready, bend(0, 2, 0, 0))},
		{"no such alignment", append(ready, bend(0, 1, 2, 0))},
		{"after the last", append(ready, bend(0, 1, 0, 0), bend(1, 0, 0, 0), move(0, 0))},
	} {
		if got, mask, e := program.RunBend(channel(), table(), machine(), 0, x.ops); e != api.ErrProgram || mask != 0 || len(got) != 0 {
			t.Error(x.name, got, mask, e)
		}
		if ok, e := program.CheckBend(channel(), table(), machine(), x.ops); ok || e != api.OK {
			t.Error(x.name, ok, e)
		}
	}
	for _, n := range wild {
		for _, o := range []api.Op{{Kind: n}, mount(n, 0), mount(0, n), bend(n, 1, 0, 0), bend(0, n, 0, 0), bend(0, 1, n, 0), bend(0, 1, 0, n)} {
			if got, mask, e := program.RunBend(channel(), table(), machine(), 0, append(ready, o)); e != api.ErrProgram || mask != 0 || len(got) != 0 {
				t.Error(o, got, mask, e)
			}
		}
	}
	// What is bent before counts, too.
	if _, _, e := program.RunBend(channel(), table(), machine(), 1, append(ready, bend(0, 1, 0, 0))); e != api.ErrProgram {
		t.Error("bent before", e)
	}
	if _, _, e := program.RunBend(channel(), table(), machine(), 1, []api.Op{mount(0, 2), bend(1, 0, 0, 2)}); e != api.ErrProgram {
		t.Error("the hook hits what was bent before", e)
	}
}

// TestDieOfTheTable holds that the die is that of the table, whatever else is mounted.
func TestDieOfTheTable(t *testing.T) {
	narrow := table()
	narrow.Die = 7
	ops := []api.Op{mount(0, 1), bend(0, 1, 0, 1), bend(1, 0, 0, 1)}
	if ok, e := program.CheckBend(channel(), narrow, machine(), ops); !ok || e != api.OK {
		t.Error(ok, e)
	}
	if ok, e := program.CheckBend(channel(), table(), machine(), ops); ok || e != api.OK {
		t.Error(ok, e)
	}
}

func TestErrorsOfTheBrake(t *testing.T) {
	noPart, noTable, noMachine, other, short, crowded, none := channel(), table(), machine(), table(), channel(), channel(), table()
	noPart.Name, noTable.Die, noMachine.Stations, other.Gauge = "", 0, 0, 11
	short.Flanges[0].Length = 3
	crowded.Flanges[1] = api.Flange{Name: "b", Side: api.North, Width: 40, Length: 20, Angle: 90}
	crowded.Flanges = append(crowded.Flanges, api.Flange{Name: "c", Parent: 1, Side: api.West, Offset: 4, Width: 16, Length: 20, Angle: -90},
		api.Flange{Name: "d", Parent: 3, Side: api.West, Offset: 4, Width: 10, Length: 20, Angle: 90})
	none.Entries = none.Entries[1:]
	for _, x := range []struct {
		name string
		p    api.Part
		t    api.BendTable
		m    api.Machine
		want api.Errno
	}{
		{"nothing", api.Part{}, api.BendTable{}, api.Machine{}, api.ErrName},
		{"no part", noPart, noTable, noMachine, api.ErrName},
		{"no table", channel(), noTable, noMachine, api.ErrTable},
		{"no machine", channel(), table(), noMachine, api.ErrTool},
		{"no machine, another gauge", channel(), other, noMachine, api.ErrTool},
		{"another gauge", channel(), other, machine(), api.ErrTable},
		{"no deduction", channel(), none, machine(), api.ErrNone},
		{"too short", short, table(), machine(), api.ErrShort},
		{"overlapping", crowded, table(), machine(), api.ErrOverlap},
	} {
		for _, ops := range [][]api.Op{nil, {{}}, make([]api.Op, api.MaxOps+1)} {
			for _, from := range []int{0, 99} {
				if got, mask, e := program.RunBend(x.p, x.t, x.m, from, ops); e != x.want || mask != 0 || len(got) != 0 {
					t.Error(x.name, got, mask, e)
				}
			}
			if ok, e := program.CheckBend(x.p, x.t, x.m, ops); ok || e != x.want {
				t.Error(x.name, ok, e)
			}
		}
	}
}

func TestOrderOfErrorsOfRunBend(t *testing.T) {
	many := slices.Repeat([]api.Op{mount(0, 0)}, api.MaxOps)
	if got, mask, e := program.RunBend(channel(), table(), machine(), 2, many); e != api.OK || mask != 2 || len(got) != 3 {
		t.Error("as many as may be", mask, e)
	}
	tooMany := slices.Concat([]api.Op{{}}, many)
	for _, from := range append(wild, -1, 4) {
		if got, mask, e := program.RunBend(channel(), table(), machine(), from, tooMany); e != api.ErrArg || mask != 0 || len(got) != 0 {
			t.Error(from, got, mask, e)
		}
	}
	if got, mask, e := program.RunBend(channel(), table(), machine(), 3, tooMany); e != api.ErrLarge || mask != 0 || len(got) != 0 {
		t.Error("too many", got, mask, e)
	}
	if _, _, e := program.RunBend(channel(), table(), machine(), 3, tooMany[:api.MaxOps]); e != api.ErrProgram {
		t.Error("not too many", e)
	}
	if ok, e := program.CheckBend(channel(), table(), machine(), tooMany); ok || e != api.OK {
		t.Error("too many", ok, e)
	}
}

func TestCheckBend(t *testing.T) {
	ops := []api.Op{mount(0, 0), bend(0, 1, 0, 0), bend(1, 0, 0, 0)}
	for i := range ops {
		if ok, e := program.CheckBend(channel(), table(), machine(), ops[:i]); ok || e != api.OK {
			t.Error("the first", i, ok, e)
		}
	}
	if ok, e := program.CheckBend(channel(), table(), machine(), ops); !ok || e != api.OK {
		t.Error(ok, e)
	}
	plain := channel()
	plain.Flanges = nil
	for _, x := range []struct {
		ops  []api.Op
		want bool
	}{{nil, true}, {[]api.Op{mount(1, 3)}, true}, {[]api.Op{bend(0, 0, 0, 0)}, false}} {
		if ok, e := program.CheckBend(plain, table(), machine(), x.ops); ok != x.want || e != api.OK {
			t.Error("no flanges", x.ops, ok, e)
		}
	}
}

// brakes has machines with any numbers of tools and stations, on which many parts can be bent.
func brakes() []api.Machine {
	one, three := machine(), machine()
	one.Punches, one.Dies, one.Stations = one.Punches[:1], one.Dies[:1], 1
	three.Punches = append([]api.Punch{punch("wide", 0, 0, 10, 30, -10, 30)}, three.Punches...)
	three.Dies = append([]api.Die{die("e", 8)}, three.Dies...)
	three.Punches[0].Length, three.Dies[0].Length = 15, 8
	three.Stations = 3
	return []api.Machine{one, machine(), three}
}

// TestBendingOfRandomParts holds that the program for any plan makes the part, and each beginning of it what has been bent by then.
func TestBendingOfRandomParts(t *testing.T) {
	r := rand.New(rand.NewSource(86))
	bends := 0
	for range 400 {
		p, m, x := randomPart(r, 6+r.Intn(25)), brakes()[r.Intn(3)], table()
		x.Entries[0].Num = r.Intn(6)
		if _, e := flat.Unfold(p, x); e != api.OK {
			continue
		}
		steps, found, e := brake.Plan(p, m, x.Die, 0)
		if !found || e != api.OK {
			continue
		}
		needs, _ := setup.Options(p, m, x.Die, steps)
		changes, e := setup.Plan(needs, m.Stations)
		if e != api.OK {
			t.Fatal(p, m, e)
		}
		ops, e := program.BendOps(p, m, x.Die, steps, changes)
		if e != api.OK || len(ops) != len(steps)+len(changes) {
			t.Fatal(p, m, ops, e)
		}
		if ok, e := program.CheckBend(p, x, m, ops); !ok || e != api.OK {
			t.Fatal(p, m, ops, ok, e)
		}
		mask := 0
		for i, o := range ops {
			if o.Kind == api.OpBend {
				mask |= 1 << o.N
				bends++
			}
			if l, got, e := program.RunBend(p, x, m, 0, ops[:i+1]); e != api.OK || got != mask || !slices.Equal(l, modelOf(t, p, mask)) {
				t.Fatal(p, m, ops, i, l, got, e)
			}
		}
	}
	if bends < 100 {
		t.Error("too few bends", bends)
	}
}

func TestBendingLeavesItsArguments(t *testing.T) {
	p, m, steps, changes := channel(), machine(), sequence(), []api.Change{{}}
	ops, e := program.BendOps(p, m, 8, steps, changes)
	if e != api.OK {
		t.Fatal(e)
	}
	same := slices.Clone(ops)
	l, _, _ := program.RunBend(p, table(), m, 0, ops)
	again, _, _ := program.RunBend(p, table(), m, 0, ops)
	clear(l)
	if !slices.Equal(again, modelOf(t, p, 3)) || !slices.Equal(ops, same) || !slices.Equal(steps, sequence()) || !slices.Equal(changes, []api.Change{{}}) || !part.Equal(p, channel()) {
		t.Error(again, ops, steps, changes, p)
	}
	clear(ops)
	if other, _ := program.BendOps(p, m, 8, steps, changes); !slices.Equal(other, same) {
		t.Error(other)
	}
}
