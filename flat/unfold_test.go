package flat_test

import (
	"math/rand"
	"slices"
	"testing"

	"sheetmetal/api"
	"sheetmetal/flat"
	"sheetmetal/geom"
	"sheetmetal/part"
)

// u returns the part u of the document.
func u() api.Part {
	return api.Part{Name: "u", Material: "steel", Gauge: 10, Width: 40, Height: 30, Flanges: []api.Flange{
		{Name: "a", Side: api.East, Width: 30, Length: 20, Angle: 90},
		{Name: "b", Side: api.West, Width: 30, Length: 20, Angle: 90},
	}}
}

// cross returns a part with flanges at all sides of a base and a flange, and with holes in several faces.
func cross() api.Part {
	return api.Part{Name: "cross", Material: "steel", Gauge: 10, Width: 40, Height: 30, Flanges: []api.Flange{
		{Name: "a", Side: api.East, Offset: 5, Width: 20, Length: 20, Angle: 90},
		{Name: "c", Parent: 1, Side: api.East, Offset: 2, Width: 10, Length: 9, Angle: -90},
		{Name: "d", Parent: 1, Side: api.West, Offset: 4, Width: 10, Length: 9, Angle: 180},
		{Name: "e", Parent: 1, Side: api.North, Offset: 3, Width: 12, Length: 7, Angle: -180},
		{Name: "f", Side: api.South, Width: 40, Length: 10, Angle: 90},
	}, Holes: []api.Hole{
		{Face: 5, Kind: api.CutHole, X: 1, Y: 5, W: 3, H: 2},
		{Face: 1, Kind: api.FormHole, X: 2, Y: 4, W: 3, H: 6},
		{Face: 0, Kind: api.CutHole, X: 2, Y: 3, W: 4, H: 5},
		{Face: 2, Kind: api.CutHole, X: 1, Y: 4, W: 2, H: 3},
	}}
}

// changed returns a part after a change.
func changed(p api.Part, change func(p *api.Part)) api.Part {
	change(&p)
	return p
}

// brokenParts returns a part for each error that part.Validate may return.
func brokenParts() map[api.Errno]api.Part {
	return map[api.Errno]api.Part{
		api.ErrName:    changed(u(), func(p *api.Part) { p.Name = "" }),
		api.ErrArg:     changed(u(), func(p *api.Part) { p.Gauge = 0 }),
		api.ErrLarge:   changed(u(), func(p *api.Part) { p.Flanges = make([]api.Flange, 6) }),
		api.ErrOverlap: changed(u(), func(p *api.Part) { p.Flanges[1].Side = api.East }),
		api.ErrShape: changed(u(), func(p *api.Part) {
			p.Flanges[0] = api.Flange{Name: "a", Side: api.East, Offset: 5, Width: 10, Length: 20, Angle: 90}
			p.Flanges[1] = api.Flange{Name: "b", Parent: 1, Side: api.North, Width: 10, Length: 20, Angle: 90}
			p.Flanges = append(p.Flanges, api.Flange{Name: "c", Parent: 2, Side: api.North, Width: 10, Length: 30, Angle: 90})
		}),
	}
}

// sameFlat reports whether two patterns are equal.
func sameFlat(a, b api.Flat) bool {
	return slices.Equal(a.Rects, b.Rects) && slices.Equal(a.Cuts, b.Cuts) && slices.Equal(a.Forms, b.Forms) && slices.Equal(a.Bends, b.Bends)
}

func line(x1, y1, x2, y2 int) api.Segment { return api.Segment{X1: x1, Y1: y1, X2: x2, Y2: y2} }

func rect(x, y, w, h int) api.Rect { return api.Rect{X: x, Y: y, W: w, H: h} }

func TestUnfoldOfTheExample(t *testing.T) {
	f, e := flat.Unfold(u(), table())
	want := api.Flat{
		Rects: []api.Rect{rect(0, 0, 28800, 21600), rect(28800, 0, 11880, 21600), rect(-11880, 0, 11880, 21600)},
		Bends: []api.BendLine{
			{Flange: 0, Parent: 0, Line: line(28800, 0, 28800, 21600), Angle: 90, Deduct: 2520},
			{Flange: 1, Parent: 0, Line: line(0, 0, 0, 21600), Angle: 90, Deduct: 2520},
		},
	}
	if e != api.OK || !sameFlat(f, want) {
		t.Error(f, e)
	}
	if l, e := flat.Heights(u(), table()); e != api.OK || !slices.Equal(l, []int{21600, 11880, 11880}) {
		t.Error(l, e)
	}
}

func TestUnfoldOfCross(t *testing.T) {
	f, e := flat.Unfold(cross(), table())
	want := api.Flat{
		Rects: []api.Rect{
			rect(0, 0, 28800, 21600),
			rect(28800, 3600, 11880, 14400),
			rect(32040, -360, 7200, 3960),
			rect(29160, 18000, 7200, 6120),
			rect(40680, 7200, 4680, 8640),
			rect(0, -4680, 28800, 4680),
		},
		Cuts:  []api.Rect{rect(25920, -2520, 2160, 1440), rect(1440, 2160, 2880, 3600), rect(37080, 1080, 1440, 2160)},
		Forms: []api.Rect{rect(29160, 14400, 4320, 2160)},
		Bends: []api.BendLine{
			{Flange: 0, Parent: 0, Line: line(28800, 3600, 28800, 18000), Angle: 90, Deduct: 2520},
			{Flange: 1, Parent: 1, Line: line(32040, 3600, 39240, 3600), Angle: -90, Deduct: 2520},
			{Flange: 2, Parent: 1, Line: line(29160, 18000, 36360, 18000), Angle: 180, Deduct: 360},
			{Flange: 3, Parent: 1, Line: line(40680, 7200, 40680, 15840), Angle: -180, Deduct: 360},
			{Flange: 4, Parent: 0, Line: line(0, 0, 28800, 0), Angle: 90, Deduct: 2520},
		},
	}
	if e != api.OK || !sameFlat(f, want) {
		t.Errorf("%+v, %v", f, e)
	}
	if l, e := flat.Heights(cross(), table()); e != api.OK || !slices.Equal(l, []int{21600, 11880, 3960, 6120, 4680, 4680}) {
		t.Error(l, e)
	}
}

func TestUnfoldOfABase(t *testing.T) {
	p := changed(u(), func(p *api.Part) {
		p.Flanges = nil
		p.Holes = []api.Hole{{Kind: api.FormHole, X: 1, Y: 1, W: 38, H: 28}}
	})
	f, e := flat.Unfold(p, table())
	want := api.Flat{Rects: []api.Rect{rect(0, 0, 28800, 21600)}, Forms: []api.Rect{rect(720, 720, 27360, 20160)}}
	if e != api.OK || !sameFlat(f, want) {
		t.Error(f, e)
	}
	if l, e := flat.Heights(p, table()); e != api.OK || !slices.Equal(l, []int{21600}) {
		t.Error(l, e)
	}
}

// A chain of the longest flanges, each at the North side of the one before.
func TestUnfoldOfTheLongestPart(t *testing.T) {
	for side, want := range []api.Rect{
		api.East:  rect(540000, 0, 108000, 108000),
		api.South: rect(0, -540000, 108000, 108000),
		api.West:  rect(-540000, 0, 108000, 108000),
		api.North: rect(0, 540000, 108000, 108000),
	} {
		p := api.Part{Name: "long", Material: "steel", Gauge: 10, Width: 150, Height: 150}
		for i := range api.MaxFlanges {
			f := api.Flange{Name: string(rune('a' + i)), Parent: i, Side: api.North, Width: 150, Length: 150, Angle: 180}
			if i == 0 {
				f.Side = side
			}
			p.Flanges = append(p.Flanges, f)
		}
		f, e := flat.Unfold(p, entries(api.Entry{Angle: 180, Num: 0, Den: 1}))
		if e != api.OK || f.Rects[5] != want {
			t.Error(side, f, e)
		}
	}
}

// with returns the part u without its second flange, after a change.
func with(change func(p *api.Part)) api.Part {
	return changed(u(), func(p *api.Part) {
		p.Flanges = p.Flanges[:1]
		change(p)
	})
}

// flange returns a flange that is bent up.
func flange(name string, parent, side, offset, width, length int) api.Flange {
	return api.Flange{Name: name, Parent: parent, Side: side, Offset: offset, Width: width, Length: length, Angle: 90}
}

func TestShort(t *testing.T) {
	four := entries(api.Entry{Angle: 90, Num: 4, Den: 1})
	twelve := entries(api.Entry{Angle: 60, Num: 1, Den: 4}, api.Entry{Angle: 90, Num: 47, Den: 12}, api.Entry{Angle: 180, Num: 4, Den: 1})
	added := func(f api.Flange) api.Part {
		return with(func(p *api.Part) { p.Flanges = append(p.Flanges, f) })
	}
	hole := func(face, kind, y int) api.Part {
		return with(func(p *api.Part) { p.Holes = []api.Hole{{Face: face, Kind: kind, X: 5, Y: y, W: 5, H: 5}} })
	}
	long := func(length int) api.Part {
		return with(func(p *api.Part) { p.Flanges[0].Length = length })
	}
	for i, x := range []struct {
		p       api.Part
		t       api.BendTable
		heights api.Errno
		unfold  api.Errno
	}{
		{long(3), table(), api.ErrShort, api.ErrShort},
		{long(4), table(), api.OK, api.OK},
		{long(3), four, api.ErrShort, api.ErrShort},
		{long(4), four, api.ErrShort, api.ErrShort},
		{long(5), four, api.OK, api.OK},
		{long(3), twelve, api.ErrShort, api.ErrShort},
		{long(4), twelve, api.OK, api.OK},
		{added(flange("c", 1, api.North, 0, 5, 4)), four, api.ErrShort, api.ErrShort},
		// At the sides of the first flange, the lines below 4 are in the bend.
		{added(flange("c", 1, api.West, 3, 10, 9)), four, api.OK, api.ErrShort},
		{added(flange("c", 1, api.West, 4, 10, 9)), four, api.OK, api.OK},
		{added(flange("c", 1, api.West, 0, 20, 9)), four, api.OK, api.ErrShort},
		{added(flange("c", 1, api.East, 6, 11, 9)), four, api.OK, api.ErrShort},
		{added(flange("c", 1, api.East, 6, 10, 9)), four, api.OK, api.OK},
		{added(flange("c", 1, api.East, 3, 13, 9)), four, api.OK, api.OK},
		{added(flange("c", 1, api.East, 0, 17, 9)), four, api.OK, api.ErrShort},
		{added(flange("c", 1, api.East, 0, 20, 9)), four, api.OK, api.ErrShort},
		{added(flange("c", 1, api.West, 3, 10, 9)), twelve, api.OK, api.ErrShort},
		{added(flange("c", 1, api.West, 4, 10, 9)), twelve, api.OK, api.OK},
		// The base and the North side of a flange have no lines in a bend.
		{added(flange("c", 1, api.North, 0, 10, 9)), four, api.OK, api.OK},
		{added(flange("c", 1, api.North, 3, 10, 9)), four, api.OK, api.OK},
		{added(flange("c", 0, api.West, 0, 10, 9)), four, api.OK, api.OK},
		{added(flange("c", 0, api.West, 20, 10, 9)), four, api.OK, api.OK},
		{added(flange("c", 0, api.South, 0, 10, 9)), four, api.OK, api.OK},
		{hole(1, api.CutHole, 3), four, api.OK, api.ErrShort},
		{hole(1, api.CutHole, 4), four, api.OK, api.ErrShort},
		{hole(1, api.FormHole, 4), four, api.OK, api.ErrShort},
		{hole(1, api.CutHole, 5), four, api.OK, api.OK},
		{hole(1, api.FormHole, 5), four, api.OK, api.OK},
		{hole(1, api.CutHole, 4), twelve, api.OK, api.OK},
		{hole(1, api.CutHole, 3), twelve, api.OK, api.ErrShort},
		{hole(0, api.CutHole, 1), four, api.OK, api.OK},
	} {
		if l, e := flat.Heights(x.p, x.t); e != x.heights || e != api.OK && l != nil {
			t.Errorf("%d: heights %v, %v, want %v", i, l, e, x.heights)
		}
		if f, e := flat.Unfold(x.p, x.t); e != x.unfold || e != api.OK && !sameFlat(f, api.Flat{}) {
			t.Errorf("%d: %v, %v, want %v", i, f, e, x.unfold)
		}
	}
}

func TestOverlap(t *testing.T) {
	four := entries(api.Entry{Angle: 90, Num: 4, Den: 1})
	for i, x := range []struct {
		want    api.Errno
		flanges []api.Flange
	}{
		// The flat height of a flange of length 14 is 10.
		// Two flanges side by side.
		{api.ErrOverlap, []api.Flange{flange("a", 0, api.East, 0, 15, 14), flange("b", 0, api.East, 15, 15, 14)}},
		{api.ErrOverlap, []api.Flange{flange("a", 0, api.South, 20, 15, 14), flange("b", 0, api.South, 5, 15, 5)}},
		{api.OK, []api.Flange{flange("a", 0, api.East, 0, 14, 14), flange("b", 0, api.East, 15, 15, 14)}},
		// Flanges at all sides touch at the corners only.
		{api.OK, []api.Flange{flange("a", 0, api.East, 0, 30, 14), flange("b", 0, api.North, 0, 40, 14), flange("c", 0, api.West, 0, 30, 14), flange("d", 0, api.South, 0, 40, 14)}},
		// A flange at the East side of the north flange lies over the east flange, or begins where this one ends, or beyond.
		{api.ErrOverlap, []api.Flange{flange("a", 0, api.East, 0, 30, 14), flange("b", 0, api.North, 0, 40, 20), flange("c", 2, api.East, 0, 16, 9)}},
		{api.OK, []api.Flange{flange("a", 0, api.East, 0, 30, 14), flange("b", 0, api.North, 0, 40, 20), flange("c", 2, api.East, 0, 15, 9)}},
		{api.OK, []api.Flange{flange("a", 0, api.East, 1, 29, 14), flange("b", 0, api.North, 0, 40, 20), flange("c", 2, api.East, 0, 16, 9)}},
		{api.ErrOverlap, []api.Flange{flange("a", 0, api.East, 0, 30, 14), flange("c", 1, api.West, 4, 5, 9), flange("b", 0, api.North, 0, 40, 20)}},
		{api.OK, []api.Flange{flange("a", 0, api.East, 0, 30, 14), flange("c", 1, api.West, 4, 5, 9), flange("b", 0, api.North, 1, 38, 20)}},
		// A flange of a flange touches the base: the line 4 of its parent is the end of the bend.
		{api.ErrOverlap, []api.Flange{flange("a", 0, api.East, 10, 10, 14), flange("c", 1, api.West, 4, 5, 9)}},
		{api.OK, []api.Flange{flange("a", 0, api.East, 10, 10, 14), flange("c", 1, api.West, 5, 5, 9)}},
		{api.OK, []api.Flange{flange("a", 0, api.East, 0, 10, 14), flange("c", 1, api.West, 4, 5, 9)}},
		// Flanges of two flanges that run towards each other.
		{api.OK, []api.Flange{flange("a", 0, api.East, 0, 10, 14), flange("b", 0, api.East, 20, 10, 14), flange("c", 1, api.East, 2, 5, 8), flange("d", 2, api.West, 7, 5, 9)}},
		{api.ErrOverlap, []api.Flange{flange("a", 0, api.East, 0, 10, 14), flange("b", 0, api.East, 20, 10, 14), flange("c", 1, api.East, 2, 5, 9), flange("d", 2, api.West, 7, 5, 9)}},
		{api.ErrOverlap, []api.Flange{flange("a", 0, api.East, 0, 10, 14), flange("b", 0, api.East, 20, 10, 14), flange("c", 1, api.East, 2, 5, 10), flange("d", 2, api.West, 7, 5, 9)}},
		// They touch at a corner only.
		{api.OK, []api.Flange{flange("a", 0, api.East, 0, 10, 14), flange("b", 0, api.East, 20, 10, 14), flange("c", 1, api.East, 0, 5, 9), flange("d", 2, api.West, 5, 4, 9)}},
		// A chain of flanges that comes back to the base.
		{api.ErrOverlap, []api.Flange{flange("a", 0, api.North, 0, 10, 14), flange("b", 1, api.East, 0, 5, 14), flange("c", 2, api.East, 2, 5, 10)}},
		{api.ErrOverlap, []api.Flange{flange("a", 0, api.North, 0, 10, 14), flange("b", 1, api.East, 0, 5, 14), flange("c", 2, api.East, 2, 5, 9)}},
		{api.OK, []api.Flange{flange("a", 0, api.North, 0, 10, 14), flange("b", 1, api.East, 0, 5, 14), flange("c", 2, api.East, 2, 5, 8)}},
	} {
		p := with(func(p *api.Part) { p.Flanges = x.flanges })
		if f, e := flat.Unfold(p, four); e != x.want || e != api.OK && !sameFlat(f, api.Flat{}) {
			t.Errorf("%d: %v, %v, want %v", i, f, e, x.want)
		}
		if _, e := flat.Heights(p, four); e != api.OK {
			t.Error(i, e)
		}
	}
}

// refusedAs checks that a part has no flat pattern for this reason, nor flat heights.
func refusedAs(t *testing.T, p api.Part, x api.BendTable, want api.Errno) {
	t.Helper()
	if f, e := flat.Unfold(p, x); e != want || !sameFlat(f, api.Flat{}) {
		t.Errorf("%v, %v, want %v", f, e, want)
	}
	if l, e := flat.Heights(p, x); e != want || l != nil {
		t.Errorf("%v, %v, want %v", l, e, want)
	}
}

// In each case the errors that come later apply too.
func TestOrderOfErrors(t *testing.T) {
	for want, p := range brokenParts() {
		if e := part.Validate(p); e != want {
			t.Fatal(want, e)
		}
		refusedAs(t, p, table(), want)
		refusedAs(t, p, api.BendTable{}, want)
		refusedAs(t, p, changedTable(func(t *api.BendTable) { t.Gauge = 11 }), want)
	}
	// The last flange of all is at the East side, too short, and beside the first one.
	short := changed(u(), func(p *api.Part) {
		p.Flanges[0].Width = 15
		p.Flanges[1].Angle = -180
		p.Flanges = append(p.Flanges, flange("c", 0, api.East, 15, 15, 3))
	})
	only90 := entries(api.Entry{Angle: 90, Num: 7, Den: 2})
	only180 := entries(api.Entry{Angle: 180, Num: 7, Den: 2})
	other := func(x api.BendTable, change func(t *api.BendTable)) api.BendTable {
		change(&x)
		return x
	}
	for _, x := range brokenTables() {
		refusedAs(t, short, x, api.ErrTable)
	}
	for _, x := range []api.BendTable{table(), only90, only180} {
		refusedAs(t, short, other(x, func(t *api.BendTable) { t.Material = "alu" }), api.ErrTable)
		refusedAs(t, short, other(x, func(t *api.BendTable) { t.Gauge = 11 }), api.ErrTable)
	}
	refusedAs(t, short, only90, api.ErrNone)
	refusedAs(t, short, only180, api.ErrNone)
	refusedAs(t, short, table(), api.ErrShort)
	short.Flanges[2].Length = 4
	if _, e := flat.Unfold(short, table()); e != api.ErrOverlap {
		t.Error(e)
	}
	short.Holes = []api.Hole{{Face: 1, Kind: 1, X: 1, Y: 3, W: 1, H: 1}}
	if _, e := flat.Unfold(short, table()); e != api.ErrShort {
		t.Error(e)
	}
}

// A table needs no entry for an angle that no flange has, and none at all for a part without flanges.
func TestOnlyTheAnglesOfThePartAreNeeded(t *testing.T) {
	only30 := entries(api.Entry{Angle: 30, Num: 1, Den: 1})
	if _, e := flat.Unfold(changed(u(), func(p *api.Part) { p.Flanges = nil }), only30); e != api.OK {
		t.Error(e)
	}
	refusedAs(t, u(), only30, api.ErrNone)
	between := entries(api.Entry{Angle: 60, Num: 1, Den: 1}, api.Entry{Angle: 120, Num: 2, Den: 1})
	if l, e := flat.Heights(u(), between); e != api.OK || l[1] != 20*720-1080 {
		t.Error(l, e)
	}
}

// randomPart returns a valid part of one material with up to five flanges and up to six holes.
func randomPart(r *rand.Rand, size int) api.Part {
	number := func(n int) int { return 1 + r.Intn(max(1, n)) }
	flanges, holes := r.Intn(api.MaxFlanges+1), r.Intn(api.MaxHoles+1)
	for {
		p := api.Part{Name: "p", Material: "m", Gauge: 7, Width: 3 + r.Intn(size), Height: 3 + r.Intn(size)}
		sizes := [][2]int{{p.Width, p.Height}}
		for i := range flanges {
			parent, side := r.Intn(i+1), r.Intn(4)
			length := sizes[parent][1-side%2]
			f := flange(string(rune('a'+i)), parent, side, 0, number(length), 2+number(size))
			f.Offset = r.Intn(length - f.Width + 1)
			f.Angle = []int{90, -90, 180, -180}[r.Intn(4)]
			p.Flanges = append(p.Flanges, f)
			sizes = append(sizes, [2]int{f.Width, f.Length})
		}
		for range r.Intn(holes + 1) {
			face := r.Intn(len(sizes))
			h := api.Hole{Face: face, Kind: number(2), W: number(3), H: number(3)}
			h.X, h.Y = number(sizes[face][0]-1-h.W), number(sizes[face][1]-1-h.H)
			p.Holes = append(p.Holes, h)
		}
		if part.Validate(p) == api.OK {
			return p
		}
	}
}

// Without deductions, the flat pattern has the faces and holes that the part has in space when nothing is bent.
func TestUnfoldWithoutDeductions(t *testing.T) {
	r := rand.New(rand.NewSource(4))
	zero := api.BendTable{Material: "m", Gauge: 7, Die: 1, Entries: []api.Entry{{Angle: 30, Den: 1}, {Angle: 180, Den: 1}}}
	seen := map[api.Errno]int{}
	for range 3000 {
		p := randomPart(r, 12)
		f, e := flat.Unfold(p, zero)
		seen[e]++
		if e != api.OK {
			continue
		}
		faces, _ := part.Faces(p, 0)
		for i, face := range faces {
			if f.Rects[i] != shadow(face) {
				t.Fatal(p, f)
			}
		}
		var cuts, forms []api.Rect
		for i, h := range p.Holes {
			face, _ := part.HoleFace(p, i, 0)
			if h.Kind == api.CutHole {
				cuts = append(cuts, shadow(face))
			} else {
				forms = append(forms, shadow(face))
			}
		}
		if !slices.Equal(f.Cuts, cuts) || !slices.Equal(f.Forms, forms) || len(f.Bends) != len(p.Flanges) {
			t.Fatal(p, f)
		}
		for i, b := range f.Bends {
			c := part.Corners(faces[i+1])
			ends := line(720*min(c[0].X, c[1].X), 720*min(c[0].Y, c[1].Y), 720*max(c[0].X, c[1].X), 720*max(c[0].Y, c[1].Y))
			if b != (api.BendLine{Flange: i, Parent: p.Flanges[i].Parent, Line: ends, Angle: p.Flanges[i].Angle}) {
				t.Fatal(p, f)
			}
		}
	}
	if seen[api.OK] < 500 || seen[api.ErrOverlap] < 500 || len(seen) != 2 {
		t.Error(seen)
	}
}

// shadow returns the rectangle, in ticks, of a face in the plane of the base.
func shadow(f api.Face) api.Rect {
	c := part.Corners(f)
	x, y := min(c[0].X, c[2].X), min(c[0].Y, c[2].Y)
	return rect(720*x, 720*y, 720*(max(c[0].X, c[2].X)-x), 720*(max(c[0].Y, c[2].Y)-y))
}

// place is a face of the test's own flat pattern, in units: its lines v above the bend lie at origin + u*U + (v - lost)*V.
type place struct {
	x, y, ux, uy, vx, vy int
	w, h, lost           int
}

func (p place) at(u, v int) (x, y int) {
	v -= p.lost
	return p.x + u*p.ux + v*p.vx, p.y + u*p.uy + v*p.vy
}

// box returns the rectangle of the part of a face, in units.
func (p place) box(u, v, w, h int) api.Rect {
	x1, y1 := p.at(u, v)
	x2, y2 := p.at(u+w, v+h)
	return rect(min(x1, x2), min(y1, y2), max(x1, x2)-min(x1, x2), max(y1, y2)-min(y1, y2))
}

// placesOf returns the faces as the chapter's table of sides has them, for whole deductions by the absolute angle.
func placesOf(p api.Part, lost map[int]int) []place {
	l := []place{{ux: 1, vy: 1, w: p.Width, h: p.Height}}
	for _, f := range p.Flanges {
		q := l[f.Parent]
		n := place{w: f.Width, h: f.Length, lost: lost[max(f.Angle, -f.Angle)]}
		switch f.Side {
		case api.East:
			n.x, n.y = q.at(q.w, q.h-f.Offset)
			n.ux, n.uy, n.vx, n.vy = -q.vx, -q.vy, q.ux, q.uy
		case api.South:
			n.x, n.y = q.at(q.w-f.Offset, 0)
			n.ux, n.uy, n.vx, n.vy = -q.ux, -q.uy, -q.vx, -q.vy
		case api.West:
			n.x, n.y = q.at(0, f.Offset)
			n.ux, n.uy, n.vx, n.vy = q.vx, q.vy, -q.ux, -q.uy
		case api.North:
			n.x, n.y = q.at(f.Offset, q.h)
			n.ux, n.uy, n.vx, n.vy = q.ux, q.uy, q.vx, q.vy
		}
		l = append(l, n)
	}
	return l
}

// crowded reports whether two faces have a common square of one unit, or neighbouring squares at a line that is no bend line between the two.
func crowded(p api.Part, boxes []api.Rect) bool {
	owner := map[[2]int]int{}
	for i, b := range boxes {
		for x := b.X; x < b.X+b.W; x++ {
			for y := b.Y; y < b.Y+b.H; y++ {
				if _, taken := owner[[2]int{x, y}]; taken {
					return true
				}
				owner[[2]int{x, y}] = i
			}
		}
	}
	isParent := func(i, j int) bool { return j > 0 && p.Flanges[j-1].Parent == i }
	for at, i := range owner {
		for _, next := range [][2]int{{at[0] + 1, at[1]}, {at[0], at[1] + 1}} {
			if j, taken := owner[next]; taken && i != j && !isParent(i, j) && !isParent(j, i) {
				return true
			}
		}
	}
	return false
}

// wantErrors returns the errors of Heights and Unfold, where deductions are whole and no other error comes first.
func wantErrors(p api.Part, l []place) (heights, unfold api.Errno) {
	for _, q := range l {
		if q.h <= q.lost {
			return api.ErrShort, api.ErrShort
		}
	}
	for _, f := range p.Flanges {
		lost := l[f.Parent].lost
		if f.Side == api.West && f.Offset < lost || f.Side == api.East && l[f.Parent].h-f.Offset-f.Width < lost {
			return api.OK, api.ErrShort
		}
	}
	for _, h := range p.Holes {
		if h.Y <= l[h.Face].lost {
			return api.OK, api.ErrShort
		}
	}
	var boxes []api.Rect
	for _, q := range l {
		boxes = append(boxes, q.box(0, q.lost, q.w, q.h-q.lost))
	}
	if crowded(p, boxes) {
		return api.OK, api.ErrOverlap
	}
	return api.OK, api.OK
}

// ticks returns a rectangle of units in ticks.
func ticks(r api.Rect) api.Rect { return rect(720*r.X, 720*r.Y, 720*r.W, 720*r.H) }

func TestUnfoldOfRandomParts(t *testing.T) {
	r := rand.New(rand.NewSource(5))
	seen := map[api.Errno]int{}
	for range 20000 {
		p := randomPart(r, 3+r.Intn(20))
		lost := map[int]int{90: r.Intn(4), 180: r.Intn(4)}
		x := api.BendTable{Material: "m", Gauge: 7, Die: 1, Entries: []api.Entry{{Angle: 90, Num: 2 * lost[90], Den: 2}, {Angle: 180, Num: lost[180], Den: 1}}}
		l := placesOf(p, lost)
		heights, want := wantErrors(p, l)
		if _, e := flat.Heights(p, x); e != heights {
			t.Fatal(p, lost, e, heights)
		}
		f, e := flat.Unfold(p, x)
		if e != want {
			t.Fatal(p, lost, f, e, want)
		}
		seen[e]++
		if e == api.OK {
			checkPattern(t, p, l, f)
		}
	}
	if seen[api.OK] < 1000 || seen[api.ErrShort] < 1000 || seen[api.ErrOverlap] < 1000 {
		t.Error(seen)
	}
}

// checkPattern checks a flat pattern against the places of the faces.
func checkPattern(t *testing.T, p api.Part, l []place, f api.Flat) {
	t.Helper()
	var rects, cuts, forms []api.Rect
	sum := 0
	for _, q := range l {
		b := ticks(q.box(0, q.lost, q.w, q.h-q.lost))
		rects = append(rects, b)
		sum += b.W * b.H
	}
	for _, h := range p.Holes {
		b := ticks(l[h.Face].box(h.X, h.Y, h.W, h.H))
		if h.Kind == api.CutHole {
			cuts = append(cuts, b)
		} else {
			forms = append(forms, b)
		}
	}
	var bends []api.BendLine
	for i, x := range p.Flanges {
		b := ticks(l[i+1].box(0, l[i+1].lost, x.Width, 0))
		bends = append(bends, api.BendLine{Flange: i, Parent: x.Parent, Line: line(b.X, b.Y, b.X+b.W, b.Y+b.H), Angle: x.Angle, Deduct: 720 * l[i+1].lost})
	}
	if !sameFlat(f, api.Flat{Rects: rects, Cuts: cuts, Forms: forms, Bends: bends}) {
		t.Fatal(p, f)
	}
	if n, e := geom.Area(f.Rects); n != sum || e != api.OK {
		t.Fatal(p, n, sum, e)
	}
}

// Neither function changes its arguments, and the results of two calls share no memory.
func TestUnfoldLeavesItsArguments(t *testing.T) {
	p, x := cross(), table()
	f, _ := flat.Unfold(p, x)
	g, _ := flat.Unfold(p, x)
	l, _ := flat.Heights(p, x)
	m, _ := flat.Heights(p, x)
	if !part.Equal(p, cross()) || !sameTable(x, table()) {
		t.Error(p, x)
	}
	clear(f.Rects)
	clear(f.Cuts)
	clear(f.Forms)
	clear(f.Bends)
	clear(l)
	if again, _ := flat.Unfold(p, x); !sameFlat(g, again) || m[1] != 11880 {
		t.Error(g, m)
	}
}
