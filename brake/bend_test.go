package brake_test

import (
	"math/rand"
	"reflect"
	"slices"
	"testing"

	"sheetmetal/api"
	"sheetmetal/brake"
	"sheetmetal/geom"
	"sheetmetal/part"
)

// single is a part with one flange, of length 20 and width 30, that is bent by the angle.
func single(angle int) api.Part {
	return plate(api.Flange{Name: "a", Side: api.East, Width: 30, Length: 20, Angle: angle})
}

// trio is a part with three flanges of width 10 side by side at the east side; the middle one, number 0, is short.
func trio(angle int) api.Part {
	return plate(
		api.Flange{Name: "a", Side: api.East, Offset: 10, Width: 10, Length: 5, Angle: 90},
		api.Flange{Name: "b", Side: api.East, Offset: 0, Width: 10, Length: 20, Angle: angle},
		api.Flange{Name: "c", Side: api.East, Offset: 20, Width: 10, Length: 20, Angle: angle},
	)
}

// punched returns press with one polygon of its punch.
func punched(l ...int) api.Machine {
	return altered(press(), func(m *api.Machine) { m.Punches[0].Polygons[0] = spots(l...) })
}

// died returns press with one polygon of its die.
func died(l ...int) api.Machine {
	return altered(press(), func(m *api.Machine) { m.Dies[0].Polygons[0] = spots(l...) })
}

// framed returns press with one polygon of its frame.
func framed(l ...int) api.Machine {
	return altered(press(), func(m *api.Machine) { m.Frame = [][]api.Spot{spots(l...)} })
}

// gauged returns press with a back gauge.
func gauged(least, most int, l ...int) api.Machine {
	return altered(press(), func(m *api.Machine) { m.GaugeMin, m.GaugeMax, m.Gauge = least, most, spots(l...) })
}

// sized returns press with a punch and a die of other lengths.
func sized(punch, die int) api.Machine {
	return altered(press(), func(m *api.Machine) { m.Punches[0].Length, m.Dies[0].Length = punch, die })
}

func TestExamine(t *testing.T) {
	for _, x := range []struct {
		name string
		p    api.Part
		m    api.Machine
		mask int
		step api.Step
		want int
	}{
		{"a slim punch", single(90), press(), 0, api.Step{}, brake.Feasible},
		{"held at the flange", single(90), press(), 0, api.Step{Held: 1}, brake.Feasible},
		{"aligned at the end", single(90), press(), 0, api.Step{Align: 1}, brake.Feasible},
		{"down", single(-90), press(), 0, api.Step{}, brake.Feasible},

		{"tools of the width", single(90), sized(30, 30), 0, api.Step{}, brake.Feasible},
		{"a short punch", single(90), sized(29, 30), 0, api.Step{}, brake.NoTool},
		{"a short die", single(90), sized(30, 29), 0, api.Step{}, brake.NoTool},

		{"the gauge at its least", single(90), gauged(40, 50, 0, 0, -1, 0, 0, 1), 0, api.Step{}, brake.Feasible},
		{"the gauge below its least", single(90), gauged(41, 50, 0, 0, -1, 0, 0, 1), 0, api.Step{}, brake.NoReach},
		{"the gauge at its most", single(90), gauged(0, 40, 0, 0, -1, 0, 0, 1), 0, api.Step{}, brake.Feasible},
		{"the gauge above its most", single(90), gauged(0, 39, 0, 0, -1, 0, 0, 1), 0, api.Step{}, brake.NoReach},
		{"the gauge at the flange", single(90), gauged(20, 20, 0, 0, -1, 0, 0, 1), 0, api.Step{Held: 1}, brake.Feasible},
		{"the gauge before the flange", single(90), gauged(21, 50, 0, 0, -1, 0, 0, 1), 0, api.Step{Held: 1}, brake.NoReach},

		{"the flange ends at the punch", single(90), punched(0, 0, 0, 30, -10, 30), 0, api.Step{}, brake.Feasible},
		{"the flange ends in the punch", single(90), punched(0, 0, 10, 30, -10, 30), 0, api.Step{}, brake.HitPunch},
		{"the flange down ends in the punch", single(-90), punched(0, 0, 10, 30, -10, 30), 0, api.Step{}, brake.HitPunch},
		{"the base ends in the punch", single(90), punched(0, 0, 10, 30, -10, 30), 0, api.Step{Held: 1}, brake.HitPunch},
		{"the base reaches the punch", single(90), punched(0, 35, 10, 60, -10, 60), 0, api.Step{Held: 1}, brake.HitPunch},
		{"the flange does not reach the punch", single(90), punched(0, 35, 10, 60, -10, 60), 0, api.Step{}, brake.Feasible},
		{"the flange passes the punch", single(90), punched(9, 9, 10, 9, 9, 10), 0, api.Step{}, brake.HitPunch},
		{"the flange passes below the punch", single(90), punched(20, 30, 21, 31, 20, 32), 0, api.Step{}, brake.Feasible},
		{"closing takes the flange around the punch", single(180), press(), 0, api.Step{}, brake.HitPunch},
		{"closing ends on the base", single(180), punched(0, 25, 10, 30, -10, 30), 0, api.Step{}, brake.Feasible},
		{"closing down", single(-180), press(), 0, api.Step{}, brake.HitPunch},
		{"half of the way is free", single(180), punched(-15, 1, -10, 1, -15, 2), 0, api.Step{}, brake.HitPunch},
		{"the other half is not needed", single(90), punched(-15, 1, -10, 1, -15, 2), 0, api.Step{}, brake.Feasible},
		{"the second polygon", single(90), altered(press(), func(m *api.Machine) {
			m.Punches[0].Polygons = append(m.Punches[0].Polygons, spots(0, 0, 10, 30, -10, 30))
		}), 0, api.Step{}, brake.HitPunch},

		{"a flange stands at the punch", u(), punched(-45, 5, -35, 5, -40, 8), 2, api.Step{}, brake.HitPunch},
		{"a flange ends below the punch", u(), punched(-45, 20, -35, 20, -40, 28), 2, api.Step{}, brake.Feasible},
		{"a flange lies below the punch", u(), punched(-50, 0, -30, 0, -40, 28), 0, api.Step{}, brake.HitGauge},
		{"a flange ends above the die", u(), died(-50, 0, -30, 0, -40, -28), 2, api.Step{}, brake.Feasible},

		{"the frame", single(90), framed(5, 15, 15, 15, 10, 25), 0, api.Step{}, brake.HitFrame},
		{"the frame ahead of the flange", single(90), framed(20, -5, 30, -5, 30, 0, 20, 0), 0, api.Step{}, brake.Feasible},
		{"the frame around all", single(90), framed(-1000, -1000, 1000, -1000, 0, 1000), 0, api.Step{}, brake.HitFrame},
		{"the frame at the base", single(90), framed(-30, -5, -20, -5, -25, 1), 0, api.Step{}, brake.HitFrame},
		{"the frame within the plane", single(90), framed(-30, -5, -20, -5, -25, 0), 0, api.Step{}, brake.Feasible},

		{"the gauge ends at the base", single(90), gauged(0, 100, 0, -5, 0, 5, -100, 0), 0, api.Step{}, brake.Feasible},
		{"a flange behind the base", u(), gauged(0, 100, 0, -5, 0, 5, -100, 0), 0, api.Step{}, brake.HitGauge},
		{"the gauge is above the flange", u(), gauged(0, 100, -5, 0, -10, 5, -10, 0), 0, api.Step{}, brake.Feasible},
		{"the gauge is behind the flange", u(), gauged(0, 100, -20, -5, -20, 5, -30, 0), 0, api.Step{}, brake.Feasible},
		{"the gauge is almost behind the flange", u(), gauged(0, 100, -19, -5, -19, 5, -30, 0), 0, api.Step{}, brake.HitGauge},
		{"a flange is bent", u(), gauged(0, 100, 0, -5, 0, 5, -100, 0), 2, api.Step{}, brake.Feasible},
	} {
		if n, e := brake.Examine(x.p, x.m, 10, x.mask, x.step); n != x.want || e != api.OK {
			t.Error(x.name, n, e)
		}
	}
	for _, opening := range append([]int{9, 11, 0, -10}, wild...) {
		if n, e := brake.Examine(single(90), press(), opening, 0, api.Step{}); n != brake.NoTool || e != api.OK {
			t.Error(opening, n, e)
		}
	}
}

func TestExamineHangingFlange(t *testing.T) {
	p := u()
	p.Flanges[1].Angle = -90
	for _, x := range []struct {
		die  []int
		want int
	}{
		{[]int{-45, -5, -35, -5, -40, -8}, brake.HitDie},
		{[]int{-45, -20, -35, -20, -40, -28}, brake.Feasible},
		{[]int{-40, 0, -40, -30, -5, 0}, brake.Feasible},
		{[]int{-41, 0, -40, -30, -5, 0}, brake.HitDie},
	} {
		if n, e := brake.Examine(p, died(x.die...), 10, 2, api.Step{}); n != x.want || e != api.OK {
			t.Error(x.die, n, e)
		}
	}
}

// TestExamineAtTools examines the middle one of three flanges: where the others are bent already, they are hit only at a tool that is longer than its flange.
func TestExamineAtTools(t *testing.T) {
	high := punched(-5, 10, 5, 10, 0, 30)
	deep := died(-5, -10, 5, -10, 0, -30)
	for _, x := range []struct {
		name                      string
		m                         api.Machine
		angle                     int
		mask, punch, die, aligned int
		want                      int
	}{
		{"the flange itself is short", high, 90, 0, 10, 10, 0, brake.Feasible},
		{"b and c are bent, tools of the width", high, 90, 6, 10, 10, 0, brake.Feasible},
		{"b and c are bent, tools of the width, at the end", high, 90, 6, 10, 10, 1, brake.Feasible},
		{"a long die", high, 90, 6, 10, 11, 0, brake.Feasible},
		{"a long punch", high, 90, 6, 11, 10, 0, brake.HitPunch},
		{"a long punch, c is flat", high, 90, 2, 11, 10, 0, brake.Feasible},
		{"a long punch, b is flat", high, 90, 4, 11, 10, 0, brake.HitPunch},
		{"a long punch at the end", high, 90, 6, 11, 10, 1, brake.HitPunch},
		{"a long punch at the end, c is flat", high, 90, 2, 11, 10, 1, brake.HitPunch},
		{"a long punch at the end, b is flat", high, 90, 4, 11, 10, 1, brake.Feasible},
		{"down, tools of the width", deep, -90, 6, 10, 10, 0, brake.Feasible},
		{"down, a long punch", deep, -90, 6, 11, 10, 0, brake.Feasible},
		{"down, a long die", deep, -90, 6, 10, 11, 0, brake.HitDie},
		{"down, a long die, c is flat", deep, -90, 2, 10, 11, 0, brake.Feasible},
		{"down, a long die at the end", deep, -90, 6, 10, 11, 1, brake.HitDie},
		{"down, a long die at the end, b is flat", deep, -90, 4, 10, 11, 1, brake.Feasible},
		{"the longest die at the end", deep, -90, 4, 10, 1000, 1, brake.Feasible},
		{"the longest die", deep, -90, 2, 10, 1000, 0, brake.Feasible},
	} {
		m := altered(x.m, func(m *api.Machine) { m.Punches[0].Length, m.Dies[0].Length = x.punch, x.die })
		if n, e := brake.Examine(trio(x.angle), m, 10, x.mask, api.Step{Align: x.aligned}); n != x.want || e != api.OK {
			t.Error(x.name, n, e)
		}
	}
}

// TestExamineAcross examines a flange beside which another one stands at right angles: it lies at one place of the bend line.
func TestExamineAcross(t *testing.T) {
	p := plate(
		api.Flange{Name: "a", Side: api.East, Offset: 5, Width: 10, Length: 5, Angle: 90},
		api.Flange{Name: "n", Side: api.North, Offset: 10, Width: 30, Length: 20, Angle: 90},
	)
	for _, x := range []struct{ length, align, want int }{
		{15, 1, brake.Feasible}, {16, 1, brake.HitPunch}, {16, 0, brake.Feasible},
	} {
		m := punched(-20, 10, 0, 10, 0, 15)
		m.Punches[0].Length = x.length
		if n, e := brake.Examine(p, m, 10, 2, api.Step{Align: x.align}); n != x.want || e != api.OK {
			t.Error(x, n, e)
		}
	}
	p.Flanges[1] = api.Flange{Name: "s", Side: api.South, Offset: 0, Width: 30, Length: 20, Angle: 90}
	for _, x := range []struct{ length, align, want int }{
		{25, 0, brake.Feasible}, {26, 0, brake.HitPunch}, {26, 1, brake.Feasible},
	} {
		m := punched(-20, 10, 0, 10, 0, 15)
		m.Punches[0].Length = x.length
		if n, e := brake.Examine(p, m, 10, 2, api.Step{Align: x.align}); n != x.want || e != api.OK {
			t.Error(x, n, e)
		}
	}
}

// TestExamineOrder takes away one reason after the other from a step that has all of them.
func TestExamineOrder(t *testing.T) {
	// b hangs behind the base, and c points from its lower end to the back.
	p := plate(
		api.Flange{Name: "a", Side: api.East, Width: 30, Length: 20, Angle: 90},
		api.Flange{Name: "b", Side: api.West, Width: 30, Length: 20, Angle: -90},
		api.Flange{Name: "c", Parent: 2, Side: api.North, Width: 10, Length: 8, Angle: 90},
	)
	m := press()
	m.Punches[0].Length, m.Dies[0].Length, m.Dies[0].Width = 29, 29, 11
	m.Punches[0].Polygons[0] = spots(0, 0, 10, 30, -10, 30)
	m.Dies[0].Polygons[0] = spots(-50, -1, -30, -1, -40, -30)
	m.Frame = [][]api.Spot{spots(5, 15, 15, 15, 10, 25)}
	m.Gauge = spots(0, -30, 0, 5, -10, 5, -10, -30)
	m.GaugeMin = 50
	for i, x := range []struct {
		change func()
		want   int
	}{
		{func() {}, brake.NoTool},
		{func() { m.Punches[0].Length = 30 }, brake.NoTool},
		{func() { m.Dies[0].Length = 30 }, brake.NoTool},
		{func() { m.Dies[0].Width = 10 }, brake.NoReach},
		{func() { m.GaugeMin = 40 }, brake.HitPunch},
		{func() { m.Punches = press().Punches }, brake.HitDie},
		{func() { m.Dies = press().Dies }, brake.HitFrame},
		{func() { m.Frame = nil }, brake.HitGauge},
		{func() { m.Gauge = press().Gauge }, brake.Feasible},
	} {
		x.change()
		if n, e := brake.Examine(p, m, 10, 6, api.Step{}); n != x.want || e != api.OK {
			t.Error(i, n, e)
		}
	}
}

func TestExamineErrors(t *testing.T) {
	for _, x := range []struct {
		mask int
		step api.Step
	}{
		{0, api.Step{Flange: 2}}, {0, api.Step{Flange: -1}}, {0, api.Step{Flange: 64}}, {0, api.Step{Held: 2}}, {0, api.Step{Held: -1}},
		{0, api.Step{Align: 2}}, {0, api.Step{Align: -1}}, {0, api.Step{Punch: 1}}, {0, api.Step{Punch: -1}}, {0, api.Step{Die: 1}}, {0, api.Step{Die: -1}},
		{-1, api.Step{}}, {4, api.Step{}}, {1, api.Step{}}, {3, api.Step{}}, {3, api.Step{Flange: 1}}, {2, api.Step{Flange: 1}},
		{wild[0], api.Step{}}, {wild[1], api.Step{}}, {wild[2], api.Step{}}, {0, api.Step{Flange: wild[0]}}, {0, api.Step{Flange: wild[1]}},
		{0, api.Step{Held: wild[4]}}, {0, api.Step{Align: wild[1]}}, {0, api.Step{Punch: wild[0]}}, {0, api.Step{Die: wild[1]}},
	} {
		if n, e := brake.Examine(u(), press(), 10, x.mask, x.step); n != 0 || e != api.ErrArg {
			t.Error(x, n, e)
		}
	}
	if n, e := brake.Examine(plate(), press(), 10, 0, api.Step{}); n != 0 || e != api.ErrArg {
		t.Error("no flanges", n, e)
	}
}

// TestCommonErrors checks that the error of the part comes first, then that of the machine, then the others.
func TestCommonErrors(t *testing.T) {
	broken := altered(press(), func(m *api.Machine) { m.Stations = 4 })
	for want, p := range brokenParts() {
		checkErrors(t, p, broken, want)
		checkErrors(t, p, press(), want)
	}
	checkErrors(t, u(), broken, api.ErrTool)
	checkErrors(t, plate(), api.Machine{}, api.ErrTool)
	for _, from := range append([]int{4, 5, -1}, wild...) {
		checkErrorsFrom(t, u(), press(), from, api.ErrArg)
	}
	checkErrorsFrom(t, plate(), press(), 1, api.ErrArg)
}

func checkErrors(t *testing.T, p api.Part, m api.Machine, want api.Errno) {
	t.Helper()
	if n, e := brake.Examine(p, m, 10, -1, api.Step{Flange: -1}); n != 0 || e != want {
		t.Error("Examine", n, e, want)
	}
	checkErrorsFrom(t, p, m, -1, want)
	checkErrorsFrom(t, p, m, 0, want)
}

func checkErrorsFrom(t *testing.T, p api.Part, m api.Machine, from int, want api.Errno) {
	t.Helper()
	if l, e := brake.Steps(p, m, 10, from); len(l) != 0 || e != want {
		t.Error("Steps", l, e, want)
	}
	for _, l := range [][]api.Step{nil, {{}}, {{Held: 1}, {Flange: -1}}} {
		if i, e := brake.CheckSequence(p, m, 10, from, l); i != 0 || e != want {
			t.Error("CheckSequence", i, e, want)
		}
	}
	if l, e := brake.Reach(p, m, 10, from); len(l) != 0 || e != want {
		t.Error("Reach", l, e, want)
	}
	if l, found, e := brake.Plan(p, m, 10, from); len(l) != 0 || found || e != want {
		t.Error("Plan", l, found, e, want)
	}
	if l, found, e := brake.Impossible(p, m, 10, from); len(l) != 0 || found || e != want {
		t.Error("Impossible", l, found, e, want)
	}
	for _, masks := range [][]int{nil, {from}, {0}} {
		if brake.CheckProof(p, m, 11, from, masks) {
			t.Error("CheckProof", masks, want)
		}
	}
}

// randomPolygon returns a polygon with an area whose spots lie within the borders.
func randomPolygon(r *rand.Rand, left, right, bottom, top int) []api.Spot {
	for {
		l := make([]api.Spot, 3+r.Intn(4))
		var points []api.Point
		for i := range l {
			l[i] = api.Spot{X: left + r.Intn(right-left+1), Y: bottom + r.Intn(top-bottom+1)}
			points = append(points, api.Point{X: api.Root{A: 2 * l[i].X}, Y: api.Root{A: 2 * l[i].Y}})
		}
		if corners, e := geom.Hull(points); e == api.OK && len(corners) > 2 {
			return l
		}
	}
}

// randomPolygons returns polygons, least or more, of which each lies within a small square in the borders of a large one.
func randomPolygons(r *rand.Rand, least, size, bottom, top int) [][]api.Spot {
	var l [][]api.Spot
	for range least + r.Intn(4-least) {
		x, y := r.Intn(2*size+1)-size, bottom+r.Intn(top-bottom+1)
		l = append(l, randomPolygon(r, x-3, x+3, max(bottom, y-3), min(top, y+3)))
	}
	return l
}

// randomMachine returns a valid machine for parts whose lengths are at most size; its dies have the Width 7 or 8.
func randomMachine(r *rand.Rand, size int) api.Machine {
	m := api.Machine{Name: "m", Stations: 1, GaugeMin: r.Intn(3), GaugeMax: size - r.Intn(3)}
	for i := range 1 + r.Intn(3) {
		m.Punches = append(m.Punches, api.Punch{Name: "p" + string(rune('0'+i)), Length: 1 + r.Intn(2*size), Polygons: randomPolygons(r, 1, 2*size, 0, 2*size)})
	}
	for i := range 1 + r.Intn(3) {
		m.Dies = append(m.Dies, api.Die{Name: "d" + string(rune('0'+i)), Width: 7 + r.Intn(4)/3, Length: 1 + r.Intn(2*size), Polygons: randomPolygons(r, 1, 2*size, -2*size, 0)})
	}
	m.Frame = randomPolygons(r, 0, 3*size, -3*size, 3*size)
	if r.Intn(2) > 0 {
		m.Frame = nil
	}
	m.Gauge = randomPolygon(r, -5, 0, -3, 3)
	return m
}

// examined is Examine of a valid step, found as the document tells it.
func examined(t *testing.T, p api.Part, m api.Machine, opening, mask int, s api.Step) int {
	t.Helper()
	f, punch, die := p.Flanges[s.Flange], m.Punches[s.Punch], m.Dies[s.Die]
	d, e := brake.Distance(p, s.Flange, s.Held)
	shapes, e2 := brake.Project(p, mask, s.Flange, s.Held)
	if e != api.OK || e2 != api.OK {
		t.Fatal(p, mask, s, e, e2)
	}
	hits := func(polygon []api.Spot, from, to int) bool {
		for _, shape := range shapes {
			if shape.Lo < to && shape.Hi > from && shapeHits(t, shape, f.Angle, polygon) {
				return true
			}
		}
		return false
	}
	atTool := func(polygons [][]api.Spot, length int) bool {
		return slices.ContainsFunc(polygons, func(polygon []api.Spot) bool {
			if s.Align == 0 {
				return hits(polygon, 0, length)
			}
			return hits(polygon, f.Width-length, f.Width)
		})
	}
	gauge := slices.Clone(m.Gauge)
	for i := range gauge {
		gauge[i].X -= d
	}
	const far = 100000
	if punch.Length < f.Width || die.Length < f.Width || die.Width != opening {
		return brake.NoTool
	}
	if d < m.GaugeMin || d > m.GaugeMax {
		return brake.NoReach
	}
	if atTool(punch.Polygons, punch.Length) {
		return brake.HitPunch
	}
	if atTool(die.Polygons, die.Length) {
		return brake.HitDie
	}
	if slices.ContainsFunc(m.Frame, func(polygon []api.Spot) bool { return hits(polygon, -far, far) }) {
		return brake.HitFrame
	}
	if hits(gauge, -far, far) {
		return brake.HitGauge
	}
	return brake.Feasible
}

// shapeHits reports whether a shape hits a polygon.
func shapeHits(t *testing.T, shape brake.Shape, angle int, polygon []api.Spot) bool {
	t.Helper()
	at := func(l []api.Spot) []api.Point {
		var points []api.Point
		for _, s := range l {
			points = append(points, api.Point{X: api.Root{A: 2 * s.X}, Y: api.Root{A: 2 * s.Y}})
		}
		return points
	}
	passed := [][]api.Point{at(shape.Spots)}
	if shape.Moving {
		stations := map[int]int{90: 3, -90: 3, 180: 6, -180: 6}[angle]
		l, e := geom.Sweep(shape.Spots, 0, stations)
		if e != api.OK {
			t.Fatal(shape, e)
		}
		passed = l
	}
	for _, l := range passed {
		meets, e := geom.Meets(l, at(polygon))
		if e != api.OK {
			t.Fatal(l, polygon, e)
		}
		if meets {
			return true
		}
	}
	return false
}

// allSteps returns all steps for a part and a machine, in ascending order.
func allSteps(p api.Part, m api.Machine) []api.Step {
	var l []api.Step
	for flange := range p.Flanges {
		for held := range 2 {
			for align := range 2 {
				for punch := range m.Punches {
					for die := range m.Dies {
						l = append(l, api.Step{Flange: flange, Held: held, Align: align, Punch: punch, Die: die})
					}
				}
			}
		}
	}
	return l
}

func TestExamineOfRandomMachines(t *testing.T) {
	r := rand.New(rand.NewSource(13))
	count := map[int]int{}
	for range 1000 {
		p, m := randomPart(r, 12), randomMachine(r, 12)
		part1, machine1 := plate(slices.Clone(p.Flanges)...), copyOf(m)
		mask := r.Intn(1 << len(p.Flanges))
		for _, s := range allSteps(p, m) {
			if mask&(1<<s.Flange) != 0 || r.Intn(4) > 0 {
				continue
			}
			want := examined(t, p, m, 7, mask, s)
			if n, e := brake.Examine(p, m, 7, mask, s); n != want || e != api.OK {
				t.Error(p, m, mask, s, n, want, e)
			}
			count[want]++
		}
		if !slices.Equal(p.Flanges, part1.Flanges) || !reflect.DeepEqual(m, machine1) {
			t.Error("an argument has changed", p, m)
		}
	}
	for result := brake.Feasible; result <= brake.HitGauge; result++ {
		if count[result] < 20 {
			t.Error("too few cases", result, count)
		}
	}
}

func TestExamineAtTheLimits(t *testing.T) {
	// The longest part: a base and five flanges in a row, each at the far end of the one before.
	p := api.Part{Name: "long", Material: "m", Gauge: 1, Width: 150, Height: 150}
	for i := range 5 {
		p.Flanges = append(p.Flanges, api.Flange{Name: string(rune('a' + i)), Parent: i, Side: api.North, Width: 150, Length: 150, Angle: 90})
	}
	p.Flanges[1].Angle, p.Flanges[3].Angle, p.Flanges[4].Angle = -90, -90, 180
	if e := part.Validate(p); e != api.OK {
		t.Fatal(e)
	}
	// The last face sweeps to 900 units at most.
	for _, x := range []struct{ flange, held, top, want int }{
		{0, 0, 750, brake.HitFrame}, {0, 1, 750, brake.Feasible}, {4, 1, 750, brake.HitFrame}, {4, 0, 750, brake.Feasible},
	} {
		m := framed(-1, x.top-1, 1, x.top-1, 0, x.top)
		m.Gauge = spots(-100, 99, -100, 100, -99, 100)
		m.GaugeMax = 900
		m.Punches[0].Polygons[0] = spots(-1000, 999, -1000, 1000, -999, 1000)
		if n, e := brake.Examine(p, m, 10, 0, api.Step{Flange: x.flange, Held: x.held}); n != x.want || e != api.OK {
			t.Error(x, n, e)
		}
	}
}
