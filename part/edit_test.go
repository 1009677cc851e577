package part_test

import (
	"math"
	"slices"
	"testing"

	"sheetmetal/api"
	"sheetmetal/part"
)

// copyOf returns a part that shares no memory with p.
func copyOf(p api.Part) api.Part {
	p.Flanges, p.Holes = slices.Clone(p.Flanges), slices.Clone(p.Holes)
	return p
}

// fields are changes of each field of the part tower.
func fields() map[string]func(p *api.Part) {
	return map[string]func(p *api.Part){
		"Name":        func(p *api.Part) { p.Name = "other" },
		"Material":    func(p *api.Part) { p.Material = "other" },
		"Gauge":       func(p *api.Part) { p.Gauge++ },
		"Grain":       func(p *api.Part) { p.Grain = api.GrainX },
		"Width":       func(p *api.Part) { p.Width++ },
		"Height":      func(p *api.Part) { p.Height++ },
		"flange name": func(p *api.Part) { p.Flanges[4].Name = "other" },
		"Parent":      func(p *api.Part) { p.Flanges[3].Parent = 1 },
		"Side":        func(p *api.Part) { p.Flanges[3].Side = api.East },
		"Offset":      func(p *api.Part) { p.Flanges[3].Offset++ },
		"Width of f4": func(p *api.Part) { p.Flanges[3].Width++ },
		"Length":      func(p *api.Part) { p.Flanges[3].Length++ },
		"Angle":       func(p *api.Part) { p.Flanges[3].Angle = 90 },
		"no f1":       func(p *api.Part) { *p = changed(u(), func(p *api.Part) { p.Flanges = nil }) },
		"Face":        func(p *api.Part) { p.Holes[0].Face = 1 },
		"Kind":        func(p *api.Part) { p.Holes[0].Kind = api.FormHole },
		"X":           func(p *api.Part) { p.Holes[0].X++ },
		"Y":           func(p *api.Part) { p.Holes[0].Y++ },
		"W":           func(p *api.Part) { p.Holes[0].W++ },
		"H":           func(p *api.Part) { p.Holes[0].H++ },
		"fewer holes": func(p *api.Part) { p.Holes = p.Holes[:2] },
		"hole order":  func(p *api.Part) { p.Holes[0], p.Holes[1] = p.Holes[1], p.Holes[0] },
	}
}

func TestEqual(t *testing.T) {
	if !part.Equal(tower(), tower()) || !part.Equal(api.Part{}, api.Part{}) {
		t.Error("equal parts")
	}
	for name, f := range fields() {
		if p := changed(tower(), f); part.Equal(p, tower()) || part.Equal(tower(), p) || !part.Equal(p, copyOf(p)) {
			t.Error(name)
		}
	}
	if !part.Equal(api.Part{Flanges: []api.Flange{}}, api.Part{Holes: []api.Hole{}}) {
		t.Error("nil and empty")
	}
	// Validity does not matter.
	for _, p := range broken() {
		if !part.Equal(p, copyOf(p)) || part.Equal(p, u()) {
			t.Error(p)
		}
	}
	wrong := api.Part{Gauge: math.MinInt, Flanges: make([]api.Flange, 100)}
	if !part.Equal(wrong, copyOf(wrong)) || part.Equal(wrong, api.Part{Gauge: math.MinInt, Flanges: make([]api.Flange, 101)}) {
		t.Error("a part beyond the limits")
	}
}

func TestChanged(t *testing.T) {
	outline := part.Change{Outline: true, Bends: true}
	holes := part.Change{Holes: true}
	same := part.Change{Same: true}
	want := map[string]part.Change{
		"Name": same, "flange name": same,
		"Material": outline, "Gauge": outline, "Grain": outline, "Width": outline, "Height": outline,
		"Side": outline, "Offset": outline, "Width of f4": outline, "Length": outline, "Angle": outline, "Parent": outline,
		"no f1": {Outline: true, Bends: true, Holes: true},
		"Face":  holes, "Kind": holes, "X": holes, "Y": holes, "W": holes, "H": holes, "fewer holes": holes, "hole order": holes,
	}
	for name, f := range fields() {
		p := changed(tower(), f)
		if c, e := part.Changed(tower(), p); c != want[name] || e != api.OK {
			t.Error(name, c, e)
		}
		if c, e := part.Changed(p, tower()); c != want[name] || e != api.OK {
			t.Error(name, c, e)
		}
	}
	fewer := changed(u(), func(p *api.Part) { p.Flanges = p.Flanges[:1] })
	if c, e := part.Changed(u(), fewer); c != outline || e != api.OK {
		t.Error(c, e)
	}
	if c, e := part.Changed(u(), u()); c != same || e != api.OK {
		t.Error(c, e)
	}
	empty := changed(u(), func(p *api.Part) { p.Holes = []api.Hole{} })
	if c, e := part.Changed(u(), empty); c != same || e != api.OK {
		t.Error(c, e)
	}
}

func TestChangedErrors(t *testing.T) {
	for first, a := range broken() {
		if c, e := part.Changed(a, u()); c != (part.Change{}) || e != first {
			t.Error(first, c, e)
		}
		if c, e := part.Changed(u(), a); c != (part.Change{}) || e != first {
			t.Error(first, c, e)
		}
		for second, b := range broken() {
			if c, e := part.Changed(a, b); c != (part.Change{}) || e != first {
				t.Error(first, second, c, e)
			}
		}
	}
}

func TestChangedKeepsItsArguments(t *testing.T) {
	a, b := tower(), tower()
	if _, e := part.Changed(a, b); e != api.OK || !part.Equal(a, tower()) || !part.Equal(b, tower()) {
		t.Error(a, b, e)
	}
}

func TestApply(t *testing.T) {
	flange := api.Flange{Name: "new", Parent: 1, Side: api.North, Offset: 3, Width: 5, Length: 6, Angle: -90}
	hole := api.Hole{Face: 2, Kind: api.FormHole, X: 3, Y: 3, W: 4, H: 4}
	// Fields that an edit does not look at have any value.
	wrong := api.Edit{Index: -7, Flange: api.Flange{Parent: -1}, Hole: api.Hole{Face: -1}, Width: -1, Height: 1000}
	edit := func(f func(e *api.Edit)) api.Edit {
		e := wrong
		f(&e)
		return e
	}
	p := changed(u(), func(p *api.Part) {
		p.Holes = []api.Hole{{Kind: api.CutHole, X: 1, Y: 1, W: 2, H: 2}, {Kind: api.FormHole, X: 9, Y: 9, W: 2, H: 2}, {Face: 1, Kind: api.CutHole, X: 5, Y: 5, W: 2, H: 2}}
	})
	for _, x := range []struct {
		name string
		edit api.Edit
		f    func(p *api.Part)
	}{
		{"base", edit(func(e *api.Edit) { e.Kind, e.Width, e.Height = api.SetBase, 50, 35 }), func(p *api.Part) { p.Width, p.Height = 50, 35 }},
		{"the first flange", edit(func(e *api.Edit) {
			e.Kind, e.Index = api.SetFlange, 0
			e.Flange = api.Flange{Name: "s", Side: api.South, Width: 10, Length: 20, Angle: 180}
		}), func(p *api.Part) {
			p.Flanges[0] = api.Flange{Name: "s", Side: api.South, Width: 10, Length: 20, Angle: 180}
		}},
		{"the last flange", edit(func(e *api.Edit) { e.Kind, e.Index, e.Flange = api.SetFlange, 1, flange }), func(p *api.Part) { p.Flanges[1] = flange }},
		{"one more flange", edit(func(e *api.Edit) { e.Kind, e.Flange = api.AddFlange, flange }), func(p *api.Part) { p.Flanges = append(p.Flanges, flange) }},
		{"no last flange", edit(func(e *api.Edit) { e.Kind, e.Index = api.RemoveFlange, 1 }), func(p *api.Part) { p.Flanges = p.Flanges[:1] }},
		{"one more hole", edit(func(e *api.Edit) { e.Kind, e.Hole = api.AddHole, hole }), func(p *api.Part) { p.Holes = append(p.Holes, hole) }},
		{"no first hole", edit(func(e *api.Edit) { e.Kind, e.Index = api.RemoveHole, 0 }), func(p *api.Part) { p.Holes = p.Holes[1:] }},
		{"no middle hole", edit(func(e *api.Edit) { e.Kind, e.Index = api.RemoveHole, 1 }), func(p *api.Part) { p.Holes = append(p.Holes[:1], p.Holes[2]) }},
		{"no last hole", edit(func(e *api.Edit) { e.Kind, e.Index = api.RemoveHole, 2 }), func(p *api.Part) { p.Holes = p.Holes[:2] }},
	} {
		before := copyOf(p)
		got, e := part.Apply(p, x.edit)
		if want := changed(copyOf(p), x.f); e != api.OK || !part.Equal(got, want) {
			t.Error(x.name, got, e)
		}
		if !part.Equal(p, before) {
			t.Error(x.name, "changes its argument")
		}
	}
}

func TestApplyRemoveFlangeLowersFaces(t *testing.T) {
	p := api.Part{Name: "p", Material: "m", Gauge: 1, Width: 40, Height: 30, Flanges: []api.Flange{
		{Name: "a", Parent: 0, Side: api.East, Width: 30, Length: 20, Angle: 90},
		{Name: "b", Parent: 0, Side: api.West, Width: 30, Length: 5, Angle: 90},
		{Name: "c", Parent: 1, Side: api.North, Width: 30, Length: 9, Angle: -90},
		{Name: "d", Parent: 0, Side: api.North, Width: 20, Length: 9, Angle: -90},
		{Name: "e", Parent: 3, Side: api.North, Width: 30, Length: 9, Angle: 90},
	}, Holes: []api.Hole{
		{Face: 0, Kind: 1, X: 1, Y: 1, W: 2, H: 2}, {Face: 1, Kind: 1, X: 1, Y: 1, W: 2, H: 2}, {Face: 3, Kind: 2, X: 1, Y: 1, W: 2, H: 2},
		{Face: 4, Kind: 1, X: 1, Y: 1, W: 2, H: 2}, {Face: 5, Kind: 1, X: 1, Y: 1, W: 2, H: 2},
	}}
	got, e := part.Apply(p, api.Edit{Kind: api.RemoveFlange, Index: 1})
	want := copyOf(p)
	want.Flanges = slices.Delete(want.Flanges, 1, 2)
	want.Flanges[3].Parent = 2
	for i, face := range []int{0, 1, 2, 3, 4} {
		want.Holes[i].Face = face
	}
	if e != api.OK || !part.Equal(got, want) {
		t.Error(got, e)
	}
	// A flange that has flanges, or a hole alone, is not removed.
	for i, want := range []api.Errno{api.ErrOrder, api.OK, api.ErrOrder, api.ErrOrder, api.ErrOrder} {
		if got, e := part.Apply(p, api.Edit{Kind: api.RemoveFlange, Index: i}); e != want || e != api.OK && !part.Equal(got, api.Part{}) {
			t.Error(i, got, e)
		}
	}
	p.Holes = nil
	for i, want := range []api.Errno{api.ErrOrder, api.OK, api.ErrOrder, api.OK, api.OK} {
		if got, e := part.Apply(p, api.Edit{Kind: api.RemoveFlange, Index: i}); e != want || e != api.OK && !part.Equal(got, api.Part{}) {
			t.Error(i, got, e)
		}
	}
}

func TestApplyErrors(t *testing.T) {
	good := api.Flange{Name: "c", Parent: 0, Side: api.North, Width: 10, Length: 10, Angle: 90}
	p := changed(u(), func(p *api.Part) { p.Holes = []api.Hole{{Face: 1, Kind: api.CutHole, X: 5, Y: 5, W: 5, H: 5}} })
	for _, x := range []struct {
		name string
		edit api.Edit
		want api.Errno
	}{
		{"kind 0", api.Edit{Kind: 0, Flange: good, Width: 10, Height: 10}, api.ErrArg},
		{"kind 7", api.Edit{Kind: 7, Flange: good, Width: 10, Height: 10}, api.ErrArg},
		{"kind -1, no such index", api.Edit{Kind: -1, Index: 9}, api.ErrArg},
		{"any kind", api.Edit{Kind: math.MinInt}, api.ErrArg},
		{"set flange -1", api.Edit{Kind: api.SetFlange, Index: -1, Flange: good}, api.ErrNone},
		{"set flange 2", api.Edit{Kind: api.SetFlange, Index: 2, Flange: good}, api.ErrNone},
		{"set any flange to an invalid one", api.Edit{Kind: api.SetFlange, Index: math.MaxInt}, api.ErrNone},
		{"remove flange 2", api.Edit{Kind: api.RemoveFlange, Index: 2}, api.ErrNone},
		{"remove flange -1", api.Edit{Kind: api.RemoveFlange, Index: -1}, api.ErrNone},
		{"remove any flange", api.Edit{Kind: api.RemoveFlange, Index: math.MaxInt}, api.ErrNone},
		{"remove hole 1", api.Edit{Kind: api.RemoveHole, Index: 1}, api.ErrNone},
		{"remove hole -1", api.Edit{Kind: api.RemoveHole, Index: -1}, api.ErrNone},
		{"remove any hole", api.Edit{Kind: api.RemoveHole, Index: math.MinInt}, api.ErrNone},
		{"remove a flange with a hole", api.Edit{Kind: api.RemoveFlange, Index: 0}, api.ErrOrder},
		{"a base that is too wide", api.Edit{Kind: api.SetBase, Width: 151, Height: 30}, api.ErrArg},
		{"a base that is too low for a flange", api.Edit{Kind: api.SetBase, Width: 40, Height: 29}, api.ErrArg},
		{"a flange with the name of another", api.Edit{Kind: api.SetFlange, Index: 1, Flange: p.Flanges[0]}, api.ErrName},
		{"a flange too small for its hole", api.Edit{Kind: api.SetFlange, Index: 0, Flange: api.Flange{Name: "a", Side: api.East, Width: 30, Length: 10, Angle: 90}}, api.ErrArg},
		{"two flanges in one place", api.Edit{Kind: api.AddFlange, Flange: api.Flange{Name: "c", Side: api.East, Width: 1, Length: 1, Angle: 90}}, api.ErrOverlap},
		{"a hole beside a face", api.Edit{Kind: api.AddHole, Hole: api.Hole{Face: 3, Kind: 1, X: 1, Y: 1, W: 1, H: 1}}, api.ErrArg},
		{"two holes in one place", api.Edit{Kind: api.AddHole, Hole: p.Holes[0]}, api.ErrOverlap},
	} {
		got, e := part.Apply(p, x.edit)
		if e != x.want || e != api.OK && !part.Equal(got, api.Part{}) {
			t.Error(x.name, got, e)
		}
	}
	// A flange that runs through another one.
	through := api.Edit{Kind: api.AddFlange, Flange: crossed().Flanges[2]}
	if got, e := part.Apply(changed(u(), func(p *api.Part) { p.Flanges[1].Length = 25 }), through); e != api.ErrShape || !part.Equal(got, api.Part{}) {
		t.Error(got, e)
	}
	if got, e := part.Apply(tower(), api.Edit{Kind: api.AddFlange, Flange: good}); e != api.ErrLarge || !part.Equal(got, api.Part{}) {
		t.Error(got, e)
	}
}

// TestApplyToInvalidPart checks that the error of the part comes before all others, also where the edit would repair it.
func TestApplyToInvalidPart(t *testing.T) {
	for want, p := range broken() {
		for _, edit := range []api.Edit{{}, {Kind: api.SetFlange, Index: -1}, {Kind: api.SetBase, Width: 40, Height: 30}, {Kind: api.RemoveFlange, Index: len(p.Flanges) - 1}} {
			if got, e := part.Apply(p, edit); e != want || !part.Equal(got, api.Part{}) {
				t.Error(want, edit.Kind, got, e)
			}
		}
	}
}

func TestApplyGivesNewMemory(t *testing.T) {
	// Lists with room behind them, into which an edit must not write.
	p := tower()
	p.Flanges = append(make([]api.Flange, 0, 9), p.Flanges[:4]...)
	p.Holes = append(make([]api.Hole, 0, 9), p.Holes[:2]...)
	before := copyOf(p)
	for _, edit := range []api.Edit{
		{Kind: api.SetBase, Width: 60, Height: 60},
		{Kind: api.SetFlange, Index: 3, Flange: api.Flange{Name: "n", Side: api.North, Width: 5, Length: 5, Angle: 90}},
		{Kind: api.AddFlange, Flange: api.Flange{Name: "n", Side: api.North, Width: 5, Length: 5, Angle: 90}},
		{Kind: api.RemoveFlange, Index: 3},
		{Kind: api.AddHole, Hole: api.Hole{Kind: 1, X: 20, Y: 20, W: 5, H: 5}},
		{Kind: api.RemoveHole, Index: 0},
	} {
		got, e := part.Apply(p, edit)
		if e != api.OK {
			t.Fatal(edit.Kind, e)
		}
		for i := range got.Flanges {
			got.Flanges[i] = api.Flange{}
		}
		for i := range got.Holes {
			got.Holes[i] = api.Hole{}
		}
		if !part.Equal(p, before) || p.Flanges[:5][4] != (api.Flange{}) || p.Holes[:3][2] != (api.Hole{}) {
			t.Fatal(edit.Kind, p)
		}
	}
}
