package brake_test

import (
	"math"
	"reflect"
	"slices"
	"testing"

	"sheetmetal/api"
	"sheetmetal/brake"
)

// wild are numbers that no field of a machine and no argument may have.
var wild = []int{math.MaxInt, math.MinInt, 1 << 32, -1 << 32, 1<<32 + 1}

// spots returns the spots with the coordinates of l, X and Y of each in turn.
func spots(l ...int) []api.Spot {
	var result []api.Spot
	for i := 0; i < len(l); i += 2 {
		result = append(result, api.Spot{X: l[i], Y: l[i+1]})
	}
	return result
}

// press is a machine with a slim punch that leans to the left, and a die with an opening of 10.
func press() api.Machine {
	return api.Machine{
		Name:     "press",
		Punches:  []api.Punch{{Name: "p", Length: 200, Polygons: [][]api.Spot{spots(0, 0, -5, 30, -10, 30)}}},
		Dies:     []api.Die{{Name: "d", Width: 10, Length: 200, Polygons: [][]api.Spot{spots(-5, 0, 5, 0, 0, -10)}}},
		Gauge:    spots(0, -5, 0, 5, -10, 5, -10, -5),
		GaugeMax: 100,
		Stations: 2,
	}
}

// workshop is a machine in which all lists have several elements.
func workshop() api.Machine {
	return api.Machine{
		Name: "shop9",
		Punches: []api.Punch{
			{Name: "p1", Length: 1000, Polygons: [][]api.Spot{spots(0, 0, 3, 9, -3, 9), spots(-1, 9, 1, 9, 1, 1000, -1, 1000)}},
			{Name: "p2", Length: 1, Polygons: [][]api.Spot{spots(0, 0, -1000, 1000, 1000, 1000, 0, 500, 0, 0, 5, 5)}},
			{Name: "p3", Length: 30, Polygons: [][]api.Spot{spots(0, 0, 1, 5, 0, 5), spots(0, 5, 1, 5, 1, 8), spots(0, 8, 1, 8, 1, 9)}},
		},
		Dies: []api.Die{
			{Name: "d1", Width: 1000, Length: 1, Polygons: [][]api.Spot{spots(-5, 0, 0, -10, 5, 0), spots(-5, -10, 5, -10, 0, -1000)}},
			{Name: "d2", Width: 1, Length: 1000, Polygons: [][]api.Spot{spots(-2, 0, 2, 0, 2, -7, -2, -7)}},
		},
		Frame:    [][]api.Spot{spots(500, -20, 600, -20, 600, 20, 500, 20), spots(-1000, -1000, 1000, -1000, 1000, -990)},
		Gauge:    spots(0, 0, -100, 100, -100, -100),
		GaugeMin: 3,
		GaugeMax: 900,
		Stations: 3,
	}
}

// copyOf returns a machine that shares no memory with m.
func copyOf(m api.Machine) api.Machine {
	m.Punches, m.Dies, m.Gauge = slices.Clone(m.Punches), slices.Clone(m.Dies), slices.Clone(m.Gauge)
	for i := range m.Punches {
		m.Punches[i].Polygons = copyOfPolygons(m.Punches[i].Polygons)
	}
	for i := range m.Dies {
		m.Dies[i].Polygons = copyOfPolygons(m.Dies[i].Polygons)
	}
	m.Frame = copyOfPolygons(m.Frame)
	return m
}

func copyOfPolygons(l [][]api.Spot) [][]api.Spot {
	var result [][]api.Spot
	for _, polygon := range l {
		result = append(result, slices.Clone(polygon))
	}
	return result
}

// altered returns m after a change, which does not change m itself.
func altered(m api.Machine, change func(m *api.Machine)) api.Machine {
	m = copyOf(m)
	change(&m)
	return m
}

// polygons are a list of polygons of a machine, and the smallest and the greatest Y that their spots may have.
type polygons struct {
	list        *[][]api.Spot
	bottom, top int
}

// polygonsOf are lists of polygons of a workshop.
func polygonsOf(m *api.Machine) map[string]polygons {
	return map[string]polygons{
		"first punch": {&m.Punches[0].Polygons, 0, 1000},
		"last punch":  {&m.Punches[2].Polygons, 0, 1000},
		"first die":   {&m.Dies[0].Polygons, -1000, 0},
		"last die":    {&m.Dies[1].Polygons, -1000, 0},
		"frame":       {&m.Frame, -1000, 1000},
	}
}

func checkMachine(t *testing.T, name string, m api.Machine, want api.Errno) {
	t.Helper()
	if e := brake.Validate(m); e != want {
		t.Error(name, e)
	}
}

func TestValidate(t *testing.T) {
	checkMachine(t, "press", press(), api.OK)
	checkMachine(t, "workshop", workshop(), api.OK)
	checkMachine(t, "nothing", api.Machine{}, api.ErrTool)
	for name, change := range map[string]func(m *api.Machine){
		"the name of a tool":       func(m *api.Machine) { m.Name = "p1" },
		"the longest name":         func(m *api.Machine) { m.Name = "abcdefgh" },
		"no frame":                 func(m *api.Machine) { m.Frame = nil },
		"an empty frame":           func(m *api.Machine) { m.Frame = [][]api.Spot{} },
		"three polygons of frame":  func(m *api.Machine) { m.Frame = append(m.Frame, spots(0, 0, 1, 0, 0, 1)) },
		"one station":              func(m *api.Machine) { m.Stations = 1 },
		"GaugeMin 0":               func(m *api.Machine) { m.GaugeMin = 0 },
		"GaugeMin is GaugeMax":     func(m *api.Machine) { m.GaugeMin = 900 },
		"both 0":                   func(m *api.Machine) { m.GaugeMin, m.GaugeMax = 0, 0 },
		"equal polygons":           func(m *api.Machine) { m.Frame[1] = m.Frame[0] },
		"clockwise":                func(m *api.Machine) { slices.Reverse(m.Frame[0]) },
		"a spot on a side":         func(m *api.Machine) { m.Gauge = spots(0, 0, -10, 0, -20, 0, -20, 1) },
		"three dies":               func(m *api.Machine) { m.Dies = append(m.Dies, press().Dies[0]) },
		"one punch":                func(m *api.Machine) { m.Punches = m.Punches[1:2] },
		"one die":                  func(m *api.Machine) { m.Dies = m.Dies[1:] },
		"a gauge far left":         func(m *api.Machine) { m.Gauge = spots(-100, 100, -100, 99, -99, 100) },
		"a frame around the sheet": func(m *api.Machine) { m.Frame[0] = spots(-1000, -1000, 1000, -1000, 0, 1000) },
	} {
		checkMachine(t, name, altered(workshop(), change), api.OK)
	}
}

func TestValidateRefuses(t *testing.T) {
	for name, change := range map[string]func(m *api.Machine){
		"no name":      func(m *api.Machine) { m.Name = "" },
		"a word":       func(m *api.Machine) { m.Name = "stations" },
		"a long name":  func(m *api.Machine) { m.Name = "abcdefghi" },
		"no punches":   func(m *api.Machine) { m.Punches = nil },
		"no dies":      func(m *api.Machine) { m.Dies = []api.Die{} },
		"four punches": func(m *api.Machine) { m.Punches = append(m.Punches, press().Punches[0]) },
		"four dies": func(m *api.Machine) {
			m.Dies = append(m.Dies, api.Die{Name: "e", Width: 1, Length: 1, Polygons: m.Dies[0].Polygons}, press().Dies[0])
		},
		"a punch's name":      func(m *api.Machine) { m.Punches[2].Name = "P3" },
		"a die's name":        func(m *api.Machine) { m.Dies[0].Name = "punch" },
		"no punch's name":     func(m *api.Machine) { m.Punches[0].Name = "" },
		"equal punches":       func(m *api.Machine) { m.Punches[2].Name = "p1" },
		"equal dies":          func(m *api.Machine) { m.Dies[1].Name = "d1" },
		"a die as a punch":    func(m *api.Machine) { m.Dies[1].Name = "p2" },
		"the last punch's":    func(m *api.Machine) { m.Dies[0].Name = "p3" },
		"length of a punch":   func(m *api.Machine) { m.Punches[1].Length = 0 },
		"long punch":          func(m *api.Machine) { m.Punches[0].Length = 1001 },
		"length of a die":     func(m *api.Machine) { m.Dies[0].Length = 0 },
		"long die":            func(m *api.Machine) { m.Dies[1].Length = 1001 },
		"width of a die":      func(m *api.Machine) { m.Dies[1].Width = 0 },
		"wide die":            func(m *api.Machine) { m.Dies[0].Width = 1001 },
		"GaugeMin below 0":    func(m *api.Machine) { m.GaugeMin = -1 },
		"GaugeMin above":      func(m *api.Machine) { m.GaugeMin = m.GaugeMax + 1 },
		"GaugeMax above":      func(m *api.Machine) { m.GaugeMax = 901 },
		"GaugeMax below 0":    func(m *api.Machine) { m.GaugeMax = -1 },
		"both below 0":        func(m *api.Machine) { m.GaugeMin, m.GaugeMax = -2, -1 },
		"no stations":         func(m *api.Machine) { m.Stations = 0 },
		"four stations":       func(m *api.Machine) { m.Stations = 4 },
		"no gauge":            func(m *api.Machine) { m.Gauge = nil },
		"two spots of gauge":  func(m *api.Machine) { m.Gauge = m.Gauge[:2] },
		"seven spots":         func(m *api.Machine) { m.Gauge = append(m.Gauge, spots(0, 1, 0, 2, 0, 3, 0, 4)...) },
		"a gauge on a line":   func(m *api.Machine) { m.Gauge = spots(0, 0, -1, -1, -5, -5, -2, -2) },
		"gauge to the right":  func(m *api.Machine) { m.Gauge[0].X = 1 },
		"gauge to the left":   func(m *api.Machine) { m.Gauge[1].X = -101 },
		"gauge to the top":    func(m *api.Machine) { m.Gauge[1].Y = 101 },
		"gauge to the bottom": func(m *api.Machine) { m.Gauge[2].Y = -101 },
	} {
		checkMachine(t, name, altered(workshop(), change), api.ErrTool)
	}
}

func TestValidateRefusesPolygons(t *testing.T) {
	valid := workshop()
	for name := range polygonsOf(&valid) {
		for i, change := range []func(l *[][]api.Spot, bottom, top int){
			func(l *[][]api.Spot, bottom, top int) { (*l)[0] = (*l)[0][:2] },
			func(l *[][]api.Spot, bottom, top int) { (*l)[len(*l)-1] = nil },
			func(l *[][]api.Spot, bottom, top int) {
				(*l)[0] = append(slices.Clone((*l)[0]), make([]api.Spot, 4)...)
			},
			func(l *[][]api.Spot, bottom, top int) { (*l)[0] = spots(0, 0, 0, 0, 0, 0) },
			func(l *[][]api.Spot, bottom, top int) { (*l)[len(*l)-1] = spots(-1, 0, 5, 0, 9, 0) },
			func(l *[][]api.Spot, bottom, top int) { (*l)[0][1].X = 1001 },
			func(l *[][]api.Spot, bottom, top int) { (*l)[0][1].X = -1001 },
			func(l *[][]api.Spot, bottom, top int) { (*l)[0][1].Y = top + 1 },
			func(l *[][]api.Spot, bottom, top int) { (*l)[len(*l)-1][0].Y = bottom - 1 },
			func(l *[][]api.Spot, bottom, top int) { *l = slices.Repeat((*l)[:1], 4) },
		} {
			m := workshop()
			x := polygonsOf(&m)[name]
			change(x.list, x.bottom, x.top)
			if e := brake.Validate(m); e != api.ErrTool {
				t.Error(name, i, e)
			}
		}
		m := workshop()
		x := polygonsOf(&m)[name]
		*x.list = [][]api.Spot{spots(-1000, x.bottom, 1000, x.bottom, 1000, x.top, -1000, x.top)}
		checkMachine(t, name, m, api.OK)
		*x.list = slices.Repeat(*x.list, 3)
		checkMachine(t, name, m, api.OK)
		*x.list = nil
		want := api.ErrTool
		if name == "frame" {
			want = api.OK
		}
		checkMachine(t, name, m, want)
	}
}

func TestValidateTakesAnyNumber(t *testing.T) {
	for _, n := range wild {
		for i, change := range []func(m *api.Machine){
			func(m *api.Machine) { m.Punches[0].Length = n },
			func(m *api.Machine) { m.Dies[0].Length = n },
			func(m *api.Machine) { m.Dies[0].Width = n },
			func(m *api.Machine) { m.Punches[1].Polygons[0][0].X = n },
			func(m *api.Machine) { m.Punches[1].Polygons[0][0].Y = n },
			func(m *api.Machine) { m.Dies[1].Polygons[0][0].Y = n },
			func(m *api.Machine) { m.Frame[1][2].X = n },
			func(m *api.Machine) { m.Gauge[2].X = n },
			func(m *api.Machine) { m.Gauge[2].Y = n },
			func(m *api.Machine) { m.GaugeMin, m.GaugeMax = n, n },
			func(m *api.Machine) { m.GaugeMin, m.GaugeMax = math.MinInt, n },
			func(m *api.Machine) { m.Stations = n },
		} {
			if e := brake.Validate(altered(workshop(), change)); e != api.ErrTool {
				t.Error(n, i, e)
			}
		}
	}
}

func TestWithoutPunch(t *testing.T) {
	for i, name := range []string{"p1", "p2", "p3"} {
		want := workshop()
		want.Punches = slices.Delete(want.Punches, i, i+1)
		m := workshop()
		result, e := brake.WithoutPunch(m, name)
		if e != api.OK || !reflect.DeepEqual(result, want) || !reflect.DeepEqual(m, workshop()) {
			t.Error(name, result, e)
		}
		spoil(&result)
		if !reflect.DeepEqual(m, workshop()) {
			t.Error("the machines share memory")
		}
	}
	invalid := altered(press(), func(m *api.Machine) { m.Stations = 0 })
	for _, x := range []struct {
		m    api.Machine
		name string
		want api.Errno
	}{
		{workshop(), "d1", api.ErrNone},
		{workshop(), "shop9", api.ErrNone},
		{workshop(), "", api.ErrNone},
		{workshop(), "P1", api.ErrNone},
		{press(), "p", api.ErrTool},
		{press(), "q", api.ErrNone},
		{invalid, "q", api.ErrTool},
		{altered(workshop(), func(m *api.Machine) { m.Punches = nil }), "p1", api.ErrTool},
	} {
		if m, e := brake.WithoutPunch(x.m, x.name); e != x.want || !reflect.DeepEqual(m, api.Machine{}) {
			t.Error(x.name, m, e)
		}
	}
}

// spoil changes all that lies in the memory of the lists of m.
func spoil(m *api.Machine) {
	for _, x := range m.Punches {
		spoilPolygons(x.Polygons)
	}
	for _, x := range m.Dies {
		spoilPolygons(x.Polygons)
	}
	spoilPolygons(m.Frame)
	spoilPolygons([][]api.Spot{m.Gauge})
	clear(m.Punches[:cap(m.Punches)])
	clear(m.Dies[:cap(m.Dies)])
}

func spoilPolygons(l [][]api.Spot) {
	for _, polygon := range l {
		clear(polygon[:cap(polygon)])
	}
	clear(l[:cap(l)])
}
