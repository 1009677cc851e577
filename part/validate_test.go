package part_test

import (
	"math"
	"slices"
	"strings"
	"testing"

	"sheetmetal/api"
	"sheetmetal/part"
)

// wild are numbers that are far from every limit.
var wild = []int{math.MaxInt, math.MinInt, math.MinInt + 1, 1 << 32, -1 << 32, 1 << 62}

// u is the part of the document's example.
func u() api.Part {
	return api.Part{Name: "u", Material: "steel", Gauge: 10, Width: 40, Height: 30, Flanges: []api.Flange{
		{Name: "a", Parent: 0, Side: api.East, Offset: 0, Width: 30, Length: 20, Angle: 90},
		{Name: "b", Parent: 0, Side: api.West, Offset: 0, Width: 30, Length: 20, Angle: 90},
	}}
}

// tower is a part with five flanges, of which each but the first belongs to the one before, and holes in the faces 0, 2 and 5.
func tower() api.Part {
	return api.Part{Name: "tower", Material: "alu", Gauge: 20, Grain: api.GrainY, Width: 50, Height: 60, Flanges: []api.Flange{
		{Name: "f1", Parent: 0, Side: api.East, Offset: 5, Width: 40, Length: 30, Angle: 90},
		{Name: "f2", Parent: 1, Side: api.North, Offset: 5, Width: 30, Length: 25, Angle: -90},
		{Name: "f3", Parent: 2, Side: api.East, Offset: 5, Width: 15, Length: 20, Angle: 180},
		{Name: "f4", Parent: 3, Side: api.West, Offset: 2, Width: 12, Length: 10, Angle: -180},
		{Name: "f5", Parent: 4, Side: api.North, Offset: 1, Width: 9, Length: 8, Angle: 90},
	}, Holes: []api.Hole{
		{Face: 0, Kind: api.CutHole, X: 2, Y: 3, W: 4, H: 5},
		{Face: 2, Kind: api.FormHole, X: 1, Y: 1, W: 28, H: 23},
		{Face: 5, Kind: api.CutHole, X: 3, Y: 2, W: 3, H: 4},
	}}
}

// changed returns a part after f.
func changed(p api.Part, f func(p *api.Part)) api.Part {
	f(&p)
	return p
}

// broken are parts that are not valid, with their errors.
func broken() map[api.Errno]api.Part {
	return map[api.Errno]api.Part{
		api.ErrName:    changed(u(), func(p *api.Part) { p.Name = "U" }),
		api.ErrArg:     changed(u(), func(p *api.Part) { p.Gauge = 0 }),
		api.ErrLarge:   changed(u(), func(p *api.Part) { p.Holes = make([]api.Hole, api.MaxHoles+1) }),
		api.ErrOverlap: changed(u(), func(p *api.Part) { p.Flanges[1].Side = api.East }),
		api.ErrShape:   crossed(),
	}
}

// crossed is a part in which the flange c, which stands on the far end of a, runs back through b.
func crossed() api.Part {
	p := u()
	p.Flanges[1].Length = 25
	p.Flanges = append(p.Flanges, api.Flange{Name: "c", Parent: 1, Side: api.North, Width: 30, Length: 50, Angle: 90})
	return p
}

func TestValidName(t *testing.T) {
	for _, s := range []string{"a", "z", "m5", "a0", "z9", "abcdefgh", "a2345678", "steel2", "xy", "parts", "uup", "closeups"} {
		if !part.ValidName(s) {
			t.Error(s)
		}
	}
	invalid := []string{
		"", "abcdefghi", "0", "9a", "1234", "A", "aB", "Z9", "a b", " a", "a ", "a-b", "a_b", "_a", "a.b", "a\n", "a\x00", "`a", "{a", "a{", "a`", "a/", "a:", "/a", ":a",
		"\u00e4", "a\u00e9", "a\xff", "\xff", "a\u0661", strings.Repeat("a", 1000),
	}
	words := strings.Fields("part material base flange hole cut form east south west north up down closeup closedown grain x y table angle machine punch die frame gauge poly stations")
	for _, s := range append(invalid, words...) {
		if part.ValidName(s) {
			t.Errorf("%q", s)
		}
	}
}

func TestValidateAccepts(t *testing.T) {
	flat := api.Part{Name: "p", Material: "m", Gauge: 1, Width: 1, Height: 1}
	box := changed(u(), func(p *api.Part) {
		p.Flanges = append(p.Flanges,
			api.Flange{Name: "n", Side: api.North, Width: 40, Length: 20, Angle: 90},
			api.Flange{Name: "s", Side: api.South, Width: 40, Length: 20, Angle: 90},
			api.Flange{Name: "back", Parent: 3, Side: api.North, Width: 40, Length: 10, Angle: -180})
	})
	for name, p := range map[string]api.Part{
		"u":          u(),
		"tower":      tower(),
		"a box":      box,
		"no flanges": flat,
		"the greatest base": changed(flat, func(p *api.Part) {
			p.Gauge, p.Width, p.Height = api.MaxGauge, api.MaxLength, api.MaxLength
		}),
		"grain x":             changed(u(), func(p *api.Part) { p.Grain = api.GrainX }),
		"grain y":             changed(u(), func(p *api.Part) { p.Grain = api.GrainY }),
		"name and material":   changed(u(), func(p *api.Part) { p.Material = p.Name }),
		"flange like part":    changed(u(), func(p *api.Part) { p.Flanges[0].Name = p.Name }),
		"the longest flange":  changed(u(), func(p *api.Part) { p.Flanges[0].Length = api.MaxLength }),
		"the shortest flange": changed(u(), func(p *api.Part) { p.Flanges[0].Length, p.Flanges[0].Width = 1, 1 }),
	} {
		if e := part.Validate(p); e != api.OK {
			t.Error(name, e)
		}
	}
}

func TestValidateBase(t *testing.T) {
	for _, s := range []string{"", "base", "abcdefghi", "U"} {
		for _, p := range []api.Part{
			changed(u(), func(p *api.Part) { p.Name = s }),
			changed(u(), func(p *api.Part) { p.Material = s }),
		} {
			if e := part.Validate(p); e != api.ErrName {
				t.Error(p, e)
			}
		}
	}
	for _, x := range []struct {
		name  string
		limit int
		set   func(p *api.Part, n int)
		above int // the first number above 0 that is refused
	}{
		{"Gauge", 1, func(p *api.Part, n int) { p.Gauge = n }, api.MaxGauge + 1},
		{"Grain", 0, func(p *api.Part, n int) { p.Grain = n }, api.GrainY + 1},
		{"Width", 1, func(p *api.Part, n int) { p.Width = n }, api.MaxLength + 1},
		{"Height", 1, func(p *api.Part, n int) { p.Height = n }, api.MaxLength + 1},
	} {
		for _, n := range append([]int{x.limit - 1, x.above, -1}, wild...) {
			p := api.Part{Name: "p", Material: "m", Gauge: 1, Width: 1, Height: 1}
			x.set(&p, n)
			if e := part.Validate(p); e != api.ErrArg {
				t.Error(x.name, n, e)
			}
		}
	}
}

func TestValidateFlange(t *testing.T) {
	// The flange on examination is the last of three: it may belong to the faces 0, 1 and 2.
	last := api.Flange{Name: "c", Parent: 1, Side: api.North, Offset: 5, Width: 20, Length: 7, Angle: -90}
	for _, x := range []struct {
		name string
		f    func(f *api.Flange)
		want api.Errno
	}{
		{"as it is", func(f *api.Flange) {}, api.OK},
		{"no name", func(f *api.Flange) { f.Name = "" }, api.ErrName},
		{"a word", func(f *api.Flange) { f.Name = "base" }, api.ErrName},
		{"the name of the first", func(f *api.Flange) { f.Name = "a" }, api.ErrName},
		{"the name of the second", func(f *api.Flange) { f.Name = "b" }, api.ErrName},
		{"a name before a number", func(f *api.Flange) { f.Name, f.Angle = "a", 0 }, api.ErrName},
		{"of the base", func(f *api.Flange) { f.Parent = 0 }, api.OK},
		{"of the base, at its South side", func(f *api.Flange) { f.Parent, f.Side = 0, api.South }, api.OK},
		{"of the second", func(f *api.Flange) { f.Parent = 2 }, api.OK},
		{"of itself", func(f *api.Flange) { f.Parent = 3 }, api.ErrArg},
		{"of a later one", func(f *api.Flange) { f.Parent = 4 }, api.ErrArg},
		{"of the face -1", func(f *api.Flange) { f.Parent = -1 }, api.ErrArg},
		{"at the South side of a flange", func(f *api.Flange) { f.Side = api.South }, api.ErrArg},
		{"at the side 4", func(f *api.Flange) { f.Side = 4 }, api.ErrArg},
		{"at the side -1", func(f *api.Flange) { f.Side = -1 }, api.ErrArg},
		{"up", func(f *api.Flange) { f.Angle = 90 }, api.OK},
		{"closed up", func(f *api.Flange) { f.Angle = 180 }, api.OK},
		{"closed down", func(f *api.Flange) { f.Angle = -180 }, api.OK},
		{"not bent", func(f *api.Flange) { f.Angle = 0 }, api.ErrArg},
		{"by 60", func(f *api.Flange) { f.Angle = 60 }, api.ErrArg},
		{"by 270", func(f *api.Flange) { f.Angle = 270 }, api.ErrArg},
		{"Width 0", func(f *api.Flange) { f.Width = 0 }, api.ErrArg},
		{"Width -1", func(f *api.Flange) { f.Width = -1 }, api.ErrArg},
		{"Length 0", func(f *api.Flange) { f.Length = 0 }, api.ErrArg},
		{"Length 150", func(f *api.Flange) { f.Length = 150 }, api.OK},
		{"Length 151", func(f *api.Flange) { f.Length = 151 }, api.ErrArg},
		{"Offset -1", func(f *api.Flange) { f.Offset = -1 }, api.ErrArg},
		{"to the end", func(f *api.Flange) { f.Offset = 10 }, api.OK},
		{"beyond the end", func(f *api.Flange) { f.Offset = 11 }, api.ErrArg},
		{"all of the side", func(f *api.Flange) { f.Offset, f.Width = 0, 30 }, api.OK},
		{"more than the side", func(f *api.Flange) { f.Offset, f.Width = 0, 31 }, api.ErrArg},
		// The sides East and West of a flange are as long as the flange: 20.
		{"all of the East side", func(f *api.Flange) { f.Side, f.Offset = api.East, 0 }, api.OK},
		{"beyond the East side", func(f *api.Flange) { f.Side, f.Offset = api.East, 1 }, api.ErrArg},
		{"all of the West side", func(f *api.Flange) { f.Side, f.Offset = api.West, 0 }, api.OK},
		{"beyond the West side", func(f *api.Flange) { f.Side, f.Offset = api.West, 1 }, api.ErrArg},
		// The North and South sides of the base have its width: 40.
		{"to the end of the North side", func(f *api.Flange) { f.Parent, f.Offset = 0, 20 }, api.OK},
		{"beyond the North side", func(f *api.Flange) { f.Parent, f.Offset = 0, 21 }, api.ErrArg},
		{"to the end of the South side", func(f *api.Flange) { f.Parent, f.Side, f.Offset = 0, api.South, 20 }, api.OK},
		{"beyond the South side", func(f *api.Flange) { f.Parent, f.Side, f.Offset = 0, api.South, 21 }, api.ErrArg},
		// Its East and West sides have its height, 30, and are taken by a and b.
		{"to the end of the East side", func(f *api.Flange) { f.Parent, f.Side, f.Offset = 0, api.East, 10 }, api.ErrOverlap},
		{"beyond the base's East side", func(f *api.Flange) { f.Parent, f.Side, f.Offset = 0, api.East, 11 }, api.ErrArg},
		{"to the end of the West side", func(f *api.Flange) { f.Parent, f.Side, f.Offset = 0, api.West, 10 }, api.ErrOverlap},
		{"beyond the base's West side", func(f *api.Flange) { f.Parent, f.Side, f.Offset = 0, api.West, 11 }, api.ErrArg},
	} {
		p, f := u(), last
		x.f(&f)
		p.Flanges = append(p.Flanges, f)
		if e := part.Validate(p); e != x.want {
			t.Error(x.name, e)
		}
	}
}

func TestValidateFlangeOfAnyNumber(t *testing.T) {
	for i, set := range []func(f *api.Flange, n int){
		func(f *api.Flange, n int) { f.Parent = n },
		func(f *api.Flange, n int) { f.Side = n },
		func(f *api.Flange, n int) { f.Offset = n },
		func(f *api.Flange, n int) { f.Width = n },
		func(f *api.Flange, n int) { f.Length = n },
		func(f *api.Flange, n int) { f.Angle = n },
		func(f *api.Flange, n int) { f.Offset, f.Width = n, -n },
		func(f *api.Flange, n int) { f.Offset, f.Width = n, n },
	} {
		for _, n := range wild {
			p := u()
			set(&p.Flanges[1], n)
			if e := part.Validate(p); e != api.ErrArg {
				t.Error(i, n, e)
			}
		}
	}
}

func TestValidateFlangesOneByOne(t *testing.T) {
	// A wrong number in the first flange comes before a wrong name in the second.
	p := u()
	p.Flanges[0].Width, p.Flanges[1].Name = 0, "a"
	if e := part.Validate(p); e != api.ErrArg {
		t.Error(e)
	}
	p = u()
	p.Flanges[0].Name, p.Flanges[1].Width = "", 0
	if e := part.Validate(p); e != api.ErrName {
		t.Error(e)
	}
}

func TestValidateFlangesOfOneSide(t *testing.T) {
	for _, x := range []struct {
		name   string
		parent int
		side   int
		offset int
		width  int
		want   api.Errno
	}{
		{"the same interval", 0, api.North, 10, 10, api.ErrOverlap},
		{"within it", 0, api.North, 14, 1, api.ErrOverlap},
		{"around it", 0, api.North, 5, 20, api.ErrOverlap},
		{"over its beginning", 0, api.North, 5, 6, api.ErrOverlap},
		{"over its end", 0, api.North, 19, 6, api.ErrOverlap},
		{"up to its beginning", 0, api.North, 5, 5, api.OK},
		{"from its end", 0, api.North, 20, 5, api.OK},
		{"after it", 0, api.North, 21, 5, api.OK},
		{"at another side", 0, api.South, 10, 10, api.OK},
		{"at the same side of another face", 1, api.North, 10, 10, api.OK},
	} {
		p := api.Part{Name: "p", Material: "m", Gauge: 1, Width: 40, Height: 30, Flanges: []api.Flange{
			{Name: "e", Parent: 0, Side: api.East, Width: 30, Length: 10, Angle: 90},
			{Name: "n", Parent: 0, Side: api.North, Offset: 10, Width: 10, Length: 5, Angle: 90},
			{Name: "m", Parent: x.parent, Side: x.side, Offset: x.offset, Width: x.width, Length: 5, Angle: 90},
		}}
		if e := part.Validate(p); e != x.want {
			t.Error(x.name, e)
		}
	}
}

func TestValidateHole(t *testing.T) {
	for _, x := range []struct {
		name string
		hole api.Hole
		want api.Errno
	}{
		{"cut", api.Hole{Kind: api.CutHole, X: 1, Y: 1, W: 1, H: 1}, api.OK},
		{"form", api.Hole{Kind: api.FormHole, X: 1, Y: 1, W: 1, H: 1}, api.OK},
		{"kind 0", api.Hole{Kind: 0, X: 1, Y: 1, W: 1, H: 1}, api.ErrArg},
		{"kind 3", api.Hole{Kind: 3, X: 1, Y: 1, W: 1, H: 1}, api.ErrArg},
		{"all of the base", api.Hole{Kind: 1, X: 1, Y: 1, W: 38, H: 28}, api.OK},
		{"too wide", api.Hole{Kind: 1, X: 1, Y: 1, W: 39, H: 28}, api.ErrArg},
		{"too high", api.Hole{Kind: 1, X: 1, Y: 1, W: 38, H: 29}, api.ErrArg},
		{"at the right", api.Hole{Kind: 1, X: 38, Y: 1, W: 1, H: 1}, api.OK},
		{"too far right", api.Hole{Kind: 1, X: 39, Y: 1, W: 1, H: 1}, api.ErrArg},
		{"at the top", api.Hole{Kind: 1, X: 1, Y: 28, W: 1, H: 1}, api.OK},
		{"too far up", api.Hole{Kind: 1, X: 1, Y: 29, W: 1, H: 1}, api.ErrArg},
		{"X 0", api.Hole{Kind: 1, X: 0, Y: 1, W: 1, H: 1}, api.ErrArg},
		{"Y 0", api.Hole{Kind: 1, X: 1, Y: 0, W: 1, H: 1}, api.ErrArg},
		{"W 0", api.Hole{Kind: 1, X: 1, Y: 1, W: 0, H: 1}, api.ErrArg},
		{"H 0", api.Hole{Kind: 1, X: 1, Y: 1, W: 1, H: 0}, api.ErrArg},
		{"all of a flange", api.Hole{Face: 2, Kind: 1, X: 1, Y: 1, W: 28, H: 18}, api.OK},
		{"too wide for a flange", api.Hole{Face: 2, Kind: 1, X: 1, Y: 1, W: 29, H: 18}, api.ErrArg},
		{"too high for a flange", api.Hole{Face: 2, Kind: 1, X: 1, Y: 1, W: 28, H: 19}, api.ErrArg},
		{"face 3", api.Hole{Face: 3, Kind: 1, X: 1, Y: 1, W: 1, H: 1}, api.ErrArg},
		{"face -1", api.Hole{Face: -1, Kind: 1, X: 1, Y: 1, W: 1, H: 1}, api.ErrArg},
	} {
		p := changed(u(), func(p *api.Part) { p.Holes = []api.Hole{x.hole} })
		if e := part.Validate(p); e != x.want {
			t.Error(x.name, e)
		}
	}
	for _, n := range wild {
		for _, x := range []api.Hole{
			{Face: n, Kind: 1, X: 1, Y: 1, W: 1, H: 1}, {Kind: n, X: 1, Y: 1, W: 1, H: 1},
			{Kind: 1, X: n, Y: 1, W: 1, H: 1}, {Kind: 1, X: 1, Y: n, W: 1, H: 1}, {Kind: 1, X: 1, Y: 1, W: n, H: 1}, {Kind: 1, X: 1, Y: 1, W: 1, H: n},
			{Kind: 1, X: n, Y: 1, W: -n, H: 1}, {Kind: 1, X: 1, Y: n, W: 1, H: -n},
		} {
			p := changed(u(), func(p *api.Part) { p.Holes = []api.Hole{x} })
			if e := part.Validate(p); e != api.ErrArg {
				t.Error(x, e)
			}
		}
	}
}

func TestValidateHolesOfOneFace(t *testing.T) {
	for _, x := range []struct {
		name string
		hole api.Hole
		want api.Errno
	}{
		{"the same", api.Hole{Kind: api.CutHole, X: 10, Y: 10, W: 5, H: 5}, api.ErrOverlap},
		{"within", api.Hole{Kind: api.CutHole, X: 11, Y: 11, W: 1, H: 1}, api.ErrOverlap},
		{"a form over it", api.Hole{Kind: api.FormHole, X: 14, Y: 14, W: 5, H: 5}, api.ErrOverlap},
		{"at its side", api.Hole{Kind: api.CutHole, X: 15, Y: 10, W: 5, H: 5}, api.ErrOverlap},
		{"above it", api.Hole{Kind: api.FormHole, X: 12, Y: 15, W: 1, H: 5}, api.ErrOverlap},
		{"at its corner", api.Hole{Kind: api.CutHole, X: 15, Y: 15, W: 5, H: 5}, api.ErrOverlap},
		{"1 away", api.Hole{Kind: api.CutHole, X: 16, Y: 10, W: 5, H: 5}, api.OK},
		{"1 away above", api.Hole{Kind: api.FormHole, X: 10, Y: 16, W: 5, H: 5}, api.OK},
		{"1 away from its corner", api.Hole{Kind: api.CutHole, X: 15, Y: 16, W: 5, H: 3}, api.OK},
		{"wide, 1 away below", api.Hole{Kind: api.CutHole, X: 10, Y: 5, W: 9, H: 4}, api.OK},
		{"high, 1 away at the left", api.Hole{Kind: api.CutHole, X: 5, Y: 10, W: 4, H: 9}, api.OK},
		{"in another face", api.Hole{Face: 1, Kind: api.CutHole, X: 10, Y: 10, W: 5, H: 5}, api.OK},
	} {
		p := changed(u(), func(p *api.Part) {
			p.Holes = []api.Hole{{Kind: api.CutHole, X: 10, Y: 10, W: 5, H: 5}, x.hole}
		})
		if e := part.Validate(p); e != x.want {
			t.Error(x.name, e)
		}
		p.Holes[0], p.Holes[1] = p.Holes[1], p.Holes[0]
		if e := part.Validate(p); e != x.want {
			t.Error(x.name, "in front", e)
		}
	}
}

func TestValidateShape(t *testing.T) {
	p := crossed()
	if e := part.Validate(p); e != api.ErrShape {
		t.Error(e)
	}
	// The flange c ends in front of b, or at it; or b ends under c.
	p.Flanges[2].Length = 40
	if e := part.Validate(p); e != api.OK {
		t.Error(e)
	}
	p.Flanges[2].Length = 41
	if e := part.Validate(p); e != api.ErrShape {
		t.Error(e)
	}
	p.Flanges[1].Length = 20
	if e := part.Validate(p); e != api.OK {
		t.Error(e)
	}
	p.Flanges[1].Length = 21
	if e := part.Validate(p); e != api.ErrShape {
		t.Error(e)
	}
	// Two closed flanges that lie on each other are parallel: they do not clash.
	p = u()
	p.Flanges[0].Length, p.Flanges[0].Angle, p.Flanges[1].Length, p.Flanges[1].Angle = 40, 180, 40, -180
	if e := part.Validate(p); e != api.OK {
		t.Error(e)
	}
	// A flange clashes with the base: it goes up, back over the base, and down through it.
	p = api.Part{Name: "p", Material: "m", Gauge: 1, Width: 40, Height: 30, Flanges: []api.Flange{
		{Name: "a", Parent: 0, Side: api.East, Width: 30, Length: 20, Angle: 90},
		{Name: "b", Parent: 1, Side: api.North, Width: 30, Length: 20, Angle: 90},
		{Name: "c", Parent: 2, Side: api.North, Width: 30, Length: 20, Angle: 90},
	}}
	if e := part.Validate(p); e != api.OK {
		t.Error(e)
	}
	p.Flanges[2].Length = 21
	if e := part.Validate(p); e != api.ErrShape {
		t.Error(e)
	}
}

func TestValidateLimits(t *testing.T) {
	p := tower()
	p.Flanges = append(p.Flanges, api.Flange{Name: "f6", Side: api.West, Width: 1, Length: 1, Angle: 90})
	if e := part.Validate(p); e != api.ErrLarge {
		t.Error(e)
	}
	p = u()
	for i := range api.MaxHoles {
		p.Holes = append(p.Holes, api.Hole{Kind: api.CutHole, X: 2 * (i + 1), Y: 1, W: 1, H: 1})
	}
	if e := part.Validate(p); e != api.OK {
		t.Error(e)
	}
	p.Holes = append(p.Holes, api.Hole{Kind: api.CutHole, X: 30, Y: 1, W: 1, H: 1})
	if e := part.Validate(p); e != api.ErrLarge {
		t.Error(e)
	}
}

// TestValidateOrder takes a part with all errors and repairs them, from the one that is named first to the last.
func TestValidateOrder(t *testing.T) {
	p := crossed()
	p.Material, p.Grain = "", 3
	p.Holes = slices.Repeat([]api.Hole{{Kind: api.CutHole, X: 1, Y: 1, W: 1, H: 1}}, api.MaxHoles+1)
	p.Holes[0].Kind = 0
	p.Flanges = append(p.Flanges, p.Flanges[1])
	p.Flanges[3].Angle = 0
	for i, x := range []struct {
		want   api.Errno
		repair func()
	}{
		{api.ErrName, func() { p.Material = "m" }},
		{api.ErrArg, func() { p.Grain = 0 }},
		{api.ErrLarge, func() { p.Holes = p.Holes[:api.MaxHoles] }},
		{api.ErrName, func() { p.Flanges[3].Name = "d" }},
		{api.ErrArg, func() { p.Flanges[3].Angle = 90 }},
		{api.ErrOverlap, func() { p.Flanges = p.Flanges[:3] }},
		{api.ErrArg, func() { p.Holes[0].Kind = api.CutHole }},
		{api.ErrOverlap, func() { p.Holes = p.Holes[:1] }},
		{api.ErrShape, func() { p.Flanges[2].Length = 1 }},
		{api.OK, func() {}},
	} {
		if e := part.Validate(p); e != x.want {
			t.Error(i, e, x.want)
		}
		x.repair()
	}
}
