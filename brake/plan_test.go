package brake_test

import (
	"math/rand"
	"slices"
	"testing"

	"sheetmetal/api"
	"sheetmetal/brake"
	"sheetmetal/part"
)

// outOfReach is a machine that can hold no side of u.
func outOfReach() api.Machine {
	return altered(press(), func(m *api.Machine) { m.GaugeMin = 50 })
}

// uneven is the part u with a shorter flange a.
func uneven() api.Part {
	p := u()
	p.Flanges[0].Length = 10
	return p
}

func TestSteps(t *testing.T) {
	two := altered(press(), func(m *api.Machine) {
		m.Punches = append(m.Punches, api.Punch{Name: "q", Length: 30, Polygons: [][]api.Spot{spots(0, 50, 1, 50, 0, 51)}})
		m.Dies = []api.Die{{Name: "e", Width: 9, Length: 200, Polygons: m.Dies[0].Polygons}, m.Dies[0], {Name: "f", Width: 10, Length: 30, Polygons: m.Dies[0].Polygons}}
	})
	for _, x := range []struct {
		name string
		p    api.Part
		m    api.Machine
		mask int
		want []api.Step
	}{
		{"u", u(), press(), 0, []api.Step{{Held: 1}, {Held: 1, Align: 1}, {Flange: 1, Held: 1}, {Flange: 1, Held: 1, Align: 1}}},
		{"u, a is bent", u(), press(), 1, []api.Step{{Flange: 1}, {Flange: 1, Align: 1}, {Flange: 1, Held: 1}, {Flange: 1, Held: 1, Align: 1}}},
		{"u, all is bent", u(), press(), 3, nil},
		{"no flanges", plate(), press(), 0, nil},
		{"out of reach", u(), outOfReach(), 0, nil},
		{"several tools", single(90), two, 0, []api.Step{
			{Die: 1}, {Die: 2}, {Punch: 1, Die: 1}, {Punch: 1, Die: 2},
			{Align: 1, Die: 1}, {Align: 1, Die: 2}, {Align: 1, Punch: 1, Die: 1}, {Align: 1, Punch: 1, Die: 2},
			{Held: 1, Die: 1}, {Held: 1, Die: 2}, {Held: 1, Punch: 1, Die: 1}, {Held: 1, Punch: 1, Die: 2},
			{Held: 1, Align: 1, Die: 1}, {Held: 1, Align: 1, Die: 2}, {Held: 1, Align: 1, Punch: 1, Die: 1}, {Held: 1, Align: 1, Punch: 1, Die: 2},
		}},
	} {
		if l, e := brake.Steps(x.p, x.m, 10, x.mask); e != api.OK || !slices.Equal(l, x.want) {
			t.Error(x.name, l, e)
		}
	}
	if l, e := brake.Steps(u(), press(), 11, 0); e != api.OK || len(l) != 0 {
		t.Error("another opening", l, e)
	}
}

// feasible returns the feasible steps with a mask, by Examine.
func feasible(t *testing.T, p api.Part, m api.Machine, mask int) []api.Step {
	t.Helper()
	var l []api.Step
	for _, s := range allSteps(p, m) {
		if mask&(1<<s.Flange) != 0 {
			continue
		}
		n, e := brake.Examine(p, m, 7, mask, s)
		if e != api.OK {
			t.Fatal(p, m, mask, s, e)
		}
		if n == brake.Feasible {
			l = append(l, s)
		}
	}
	return l
}

func TestStepsOfRandomMachines(t *testing.T) {
	r := rand.New(rand.NewSource(14))
	for range 250 {
		p, m := randomPart(r, 12), randomMachine(r, 12)
		mask := r.Intn(1 << len(p.Flanges))
		if l, e := brake.Steps(p, m, 7, mask); e != api.OK || !slices.Equal(l, feasible(t, p, m, mask)) {
			t.Error(p, m, mask, l, e)
		}
	}
}

func TestCheckSequence(t *testing.T) {
	for _, x := range []struct {
		name string
		from int
		l    []api.Step
		at   int
		want api.Errno
	}{
		{"a and b", 0, []api.Step{{Held: 1}, {Flange: 1}}, 0, api.OK},
		{"b and a", 0, []api.Step{{Flange: 1, Held: 1}, {Align: 1}}, 0, api.OK},
		{"b from a", 1, []api.Step{{Flange: 1}}, 0, api.OK},
		{"nothing from all", 3, nil, 0, api.OK},
		{"nothing", 0, nil, 0, api.ErrOrder},
		{"nothing from a", 1, []api.Step{}, 0, api.ErrOrder},
		{"a alone", 0, []api.Step{{Held: 1}}, 0, api.ErrOrder},
		{"b alone", 0, []api.Step{{Flange: 1, Held: 1}}, 0, api.ErrOrder},
		{"a hits the gauge", 0, []api.Step{{}, {Flange: 1}}, 0, api.ErrStep},
		{"a twice", 0, []api.Step{{Held: 1}, {Held: 1}}, 1, api.ErrStep},
		{"a from a", 1, []api.Step{{Held: 1}}, 0, api.ErrStep},
		{"no flange", 0, []api.Step{{Held: 1}, {Flange: 2}}, 1, api.ErrStep},
		{"no held side", 0, []api.Step{{Held: 1}, {Flange: 1, Held: 2}}, 1, api.ErrStep},
		{"no punch", 0, []api.Step{{Held: 1, Punch: 1}, {Flange: 1}}, 0, api.ErrStep},
		{"one too many", 0, []api.Step{{Held: 1}, {Flange: 1}, {Flange: 1}}, 2, api.ErrStep},
		{"one too many from all", 3, []api.Step{{Flange: 1}}, 0, api.ErrStep},
		{"far numbers", 0, []api.Step{{Held: 1}, {Flange: wild[0], Punch: wild[1]}}, 1, api.ErrStep},
		{"below 0", 0, []api.Step{{Held: 1}, {Flange: -1}}, 1, api.ErrStep},
		{"many", 0, make([]api.Step, 100000), 0, api.ErrStep},
	} {
		if i, e := brake.CheckSequence(u(), press(), 10, x.from, x.l); i != x.at || e != x.want {
			t.Error(x.name, i, e)
		}
	}
	if i, e := brake.CheckSequence(plate(), press(), 10, 0, nil); i != 0 || e != api.OK {
		t.Error("no flanges", i, e)
	}
	if i, e := brake.CheckSequence(plate(), press(), 10, 0, []api.Step{{}}); i != 0 || e != api.ErrStep {
		t.Error("no flanges, one step", i, e)
	}
}

// reached returns the masks that can be reached, by Steps.
func reached(t *testing.T, p api.Part, m api.Machine, from int) []int {
	t.Helper()
	found := []int{from}
	for i := 0; i < len(found); i++ {
		l, e := brake.Steps(p, m, 7, found[i])
		if e != api.OK {
			t.Fatal(p, m, found[i], e)
		}
		for _, s := range l {
			if next := found[i] | 1<<s.Flange; !slices.Contains(found, next) {
				found = append(found, next)
			}
		}
	}
	slices.Sort(found)
	return found
}

func TestReach(t *testing.T) {
	for _, x := range []struct {
		name string
		p    api.Part
		m    api.Machine
		from int
		want []int
	}{
		{"u", u(), press(), 0, []int{0, 1, 2, 3}},
		{"u from a", u(), press(), 1, []int{1, 3}},
		{"u from b", u(), press(), 2, []int{2, 3}},
		{"u from all", u(), press(), 3, []int{3}},
		{"out of reach", u(), outOfReach(), 0, []int{0}},
		{"no flanges", plate(), press(), 0, []int{0}},
		{"a can't be held, so it waits for b", uneven(), altered(press(), func(m *api.Machine) { m.GaugeMin = 15 }), 0, []int{0, 2, 3}},
		{"the same from a", uneven(), altered(press(), func(m *api.Machine) { m.GaugeMin = 15 }), 1, []int{1, 3}},
	} {
		if l, e := brake.Reach(x.p, x.m, 10, x.from); e != api.OK || !slices.Equal(l, x.want) {
			t.Error(x.name, l, e)
		}
		full := 1<<len(x.p.Flanges) - 1
		want := slices.Contains(x.want, full)
		l, found, e := brake.Plan(x.p, x.m, 10, x.from)
		if e != api.OK || found != want || !found && len(l) != 0 {
			t.Error(x.name, l, found, e)
		}
		if i, e := brake.CheckSequence(x.p, x.m, 10, x.from, l); found && (i != 0 || e != api.OK) {
			t.Error(x.name, l, i, e)
		}
		proof, impossible, e := brake.Impossible(x.p, x.m, 10, x.from)
		if e != api.OK || impossible == want || impossible && !slices.Equal(proof, x.want) || !impossible && len(proof) != 0 {
			t.Error(x.name, proof, impossible, e)
		}
	}
	if l, e := brake.Reach(u(), press(), 9, 0); e != api.OK || !slices.Equal(l, []int{0}) {
		t.Error("another opening", l, e)
	}
	if l, found, e := brake.Plan(plate(), press(), 9, 0); e != api.OK || !found || len(l) != 0 {
		t.Error("a part without flanges needs no die", l, found, e)
	}
}

func TestReachOfRandomMachines(t *testing.T) {
	r := rand.New(rand.NewSource(15))
	count := map[bool]int{}
	for range 250 {
		p, m := randomPart(r, 12), randomMachine(r, 12)
		if r.Intn(2) == 0 {
			m.Frame, m.Dies[0].Width, m.Dies[0].Length, m.Punches[0].Length = nil, 7, 100, 100
		}
		from := r.Intn(1<<len(p.Flanges)) & r.Intn(1<<len(p.Flanges))
		checkReach(t, p, m, from)
		_, found, _ := brake.Plan(p, m, 7, from)
		if len(p.Flanges) > 1 {
			count[found]++
		}
	}
	if count[true] < 30 || count[false] < 30 {
		t.Error("too few cases of one kind", count)
	}
}

// checkReach checks Reach, Plan, Impossible and CheckProof against each other and against Steps.
func checkReach(t *testing.T, p api.Part, m api.Machine, from int) {
	t.Helper()
	want := reached(t, p, m, from)
	if l, e := brake.Reach(p, m, 7, from); e != api.OK || !slices.Equal(l, want) {
		t.Error("Reach", p, m, from, l, want, e)
	}
	possible := slices.Contains(want, 1<<len(p.Flanges)-1)
	l, found, e := brake.Plan(p, m, 7, from)
	if e != api.OK || found != possible || !found && len(l) != 0 {
		t.Error("Plan", p, m, from, l, found, e)
	}
	if i, e := brake.CheckSequence(p, m, 7, from, l); found && (i != 0 || e != api.OK) {
		t.Error("CheckSequence", p, m, from, l, i, e)
	}
	if again, _, _ := brake.Plan(p, m, 7, from); !slices.Equal(l, again) {
		t.Error("Plan again", p, m, from, l, again)
	}
	proof, impossible, e := brake.Impossible(p, m, 7, from)
	if e != api.OK || impossible == possible || !impossible && len(proof) != 0 || impossible && !slices.Equal(proof, want) {
		t.Error("Impossible", p, m, from, proof, impossible, e)
	}
	if impossible != brake.CheckProof(p, m, 7, from, proof) || brake.CheckProof(p, m, 7, from, want) == possible {
		t.Error("CheckProof", p, m, from, proof)
	}
	for i := range proof {
		if brake.CheckProof(p, m, 7, from, slices.Delete(slices.Clone(proof), i, i+1)) {
			t.Error("a proof without one of its masks", p, m, from, proof, i)
		}
	}
}

func TestPlanDoesNotLookAtNamesAndHoles(t *testing.T) {
	r := rand.New(rand.NewSource(16))
	for range 150 {
		p, m := randomPart(r, 12), randomMachine(r, 12)
		m.Frame, m.Dies[0].Width, m.Dies[0].Length, m.Punches[0].Length = nil, 7, 100, 100
		other := p
		other.Name, other.Flanges = "other", slices.Clone(p.Flanges)
		for i := range other.Flanges {
			other.Flanges[i].Name = "z" + string(rune('9'-i))
		}
		if p.Width > 3 && p.Height > 3 {
			other.Holes = []api.Hole{{Kind: api.CutHole, X: 1, Y: 1, W: 1, H: 1}}
		}
		if c, e := part.Changed(p, other); e != api.OK || c.Bends {
			t.Fatal(p, other, e)
		}
		l, found, _ := brake.Plan(p, m, 7, 0)
		if l2, found2, e := brake.Plan(other, m, 7, 0); e != api.OK || found2 != found || !slices.Equal(l2, l) {
			t.Error(p, other, m, l, l2)
		}
	}
}

func TestPlanIsNew(t *testing.T) {
	p, m := u(), press()
	l, _, _ := brake.Plan(p, m, 10, 0)
	kept := slices.Clone(l)
	clear(l)
	if l, _, _ := brake.Plan(p, m, 10, 0); !slices.Equal(l, kept) || !part.Equal(p, u()) {
		t.Error(l, kept)
	}
}

func TestCheckProof(t *testing.T) {
	for _, x := range []struct {
		name  string
		p     api.Part
		m     api.Machine
		from  int
		masks []int
		want  bool
	}{
		{"the smallest", u(), outOfReach(), 0, []int{0}, true},
		{"larger than needed", u(), outOfReach(), 0, []int{0, 1, 2}, true},
		{"from 2", u(), outOfReach(), 2, []int{0, 2}, true},
		{"without from", u(), outOfReach(), 2, []int{0, 1}, false},
		{"nothing", u(), outOfReach(), 0, nil, false},
		{"empty", u(), outOfReach(), 0, []int{}, false},
		{"descending", u(), outOfReach(), 0, []int{1, 0}, false},
		{"twice", u(), outOfReach(), 0, []int{0, 0}, false},
		{"twice later", u(), outOfReach(), 0, []int{0, 1, 2, 2}, false},
		{"with the full mask", u(), outOfReach(), 0, []int{0, 3}, false},
		{"from the full mask", u(), outOfReach(), 3, []int{3}, false},
		{"no mask", u(), outOfReach(), 0, []int{0, 4}, false},
		{"below 0", u(), outOfReach(), 0, []int{-1, 0}, false},
		{"far", u(), outOfReach(), 0, []int{0, wild[0]}, false},
		{"far below", u(), outOfReach(), 0, []int{wild[1], 0}, false},
		{"from no mask", u(), outOfReach(), 4, []int{4}, false},
		{"from below 0", u(), outOfReach(), -1, []int{-1, 0}, false},
		{"it is possible", u(), press(), 0, []int{0}, false},
		{"it is possible later", u(), press(), 0, []int{0, 1, 2}, false},
		{"a and b one after the other", u(), press(), 1, []int{1}, false},
		{"no flanges", plate(), press(), 0, []int{0}, false},
		{"no flanges and no masks", plate(), press(), 0, nil, false},
		{"a part that is not valid", plate(api.Flange{}), outOfReach(), 0, []int{0}, false},
		{"a machine that is not valid", u(), altered(outOfReach(), func(m *api.Machine) { m.Name = "" }), 0, []int{0}, false},
	} {
		masks := slices.Clone(x.masks)
		if got := brake.CheckProof(x.p, x.m, 10, x.from, masks); got != x.want || !slices.Equal(masks, x.masks) {
			t.Error(x.name, got)
		}
	}
	if !brake.CheckProof(u(), press(), 11, 0, []int{0}) {
		t.Error("another opening")
	}
}

// TestCheckedProofs checks that no set of masks proves what is wrong: where one is accepted, the full mask is not reached.
func TestCheckedProofs(t *testing.T) {
	r := rand.New(rand.NewSource(17))
	accepted := 0
	for range 400 {
		p, m := randomPart(r, 12), randomMachine(r, 12)
		if len(p.Flanges) == 0 {
			continue
		}
		var masks []int
		for mask := range 1 << len(p.Flanges) {
			if r.Intn(8) > 0 {
				masks = append(masks, mask)
			}
		}
		for _, l := range [][]int{masks, masks[:len(masks)*3/4]} {
			if brake.CheckProof(p, m, 7, 0, l) {
				accepted++
				if slices.Contains(reached(t, p, m, 0), 1<<len(p.Flanges)-1) {
					t.Error(p, m, l)
				}
			}
		}
	}
	if accepted < 20 {
		t.Error("too few cases", accepted)
	}
}

func TestReachWithoutPunch(t *testing.T) {
	r := rand.New(rand.NewSource(18))
	fewer := 0
	for range 400 {
		p, m := randomPart(r, 12), randomMachine(r, 12)
		m.Frame, m.Dies[0].Width, m.Dies[0].Length = nil, 7, 100
		if len(m.Punches) == 1 {
			continue
		}
		without, e := brake.WithoutPunch(m, m.Punches[r.Intn(len(m.Punches))].Name)
		all, e2 := brake.Reach(p, m, 7, 0)
		l, e3 := brake.Reach(p, without, 7, 0)
		if e != api.OK || e2 != api.OK || e3 != api.OK {
			t.Fatal(p, m, e, e2, e3)
		}
		for _, mask := range l {
			if !slices.Contains(all, mask) {
				t.Error(p, m, l, all)
			}
		}
		if len(l) < len(all) {
			fewer++
		}
	}
	if fewer == 0 {
		t.Error("no punch is needed")
	}
}
