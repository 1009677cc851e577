package program_test

import (
	"fmt"
	"math/rand"
	"reflect"
	"slices"
	"testing"

	"sheetmetal/api"
	"sheetmetal/flat"
	"sheetmetal/part"
	"sheetmetal/program"
)

// channel is the part u of the document.
func channel() api.Part {
	return api.Part{Name: "u", Material: "steel", Gauge: 10, Width: 40, Height: 30, Flanges: []api.Flange{
		{Name: "a", Side: api.East, Width: 30, Length: 20, Angle: 90},
		{Name: "b", Side: api.West, Width: 30, Length: 20, Angle: 90},
	}}
}

// table has the deductions 7/2 for 90 degrees and 1/2 for 180.
func table() api.BendTable {
	return api.BendTable{Material: "steel", Gauge: 10, Die: 8, Entries: []api.Entry{{Angle: 90, Num: 7, Den: 2}, {Angle: 180, Num: 1, Den: 2}}}
}

// unfolded returns the flat pattern of a part that has one.
func unfolded(t *testing.T, p api.Part) api.Flat {
	t.Helper()
	f, e := flat.Unfold(p, table())
	if e != api.OK {
		t.Fatal(p, e)
	}
	return f
}

func vec(x, y, z int) api.Vec {
	return api.Vec{X: x, Y: y, Z: z}
}

func face(origin, u, v api.Vec, w, h int) api.Face {
	return api.Face{Origin: origin, U: u, V: v, W: w, H: h}
}

// TestFoldedChannel is example 3 of the chapter, by each mask.
func TestFoldedChannel(t *testing.T) {
	f := unfolded(t, channel())
	base := face(vec(0, 0, 0), vec(1, 0, 0), vec(0, 1, 0), 28800, 21600)
	for mask, want := range [][]api.Face{
		{base, face(vec(28800, 21600, 0), vec(0, -1, 0), vec(1, 0, 0), 21600, 14400), face(vec(0, 0, 0), vec(0, 1, 0), vec(-1, 0, 0), 21600, 14400)},
		{base, face(vec(28800, 21600, 0), vec(0, -1, 0), vec(0, 0, 1), 21600, 14400), face(vec(0, 0, 0), vec(0, 1, 0), vec(-1, 0, 0), 21600, 14400)},
		{base, face(vec(28800, 21600, 0), vec(0, -1, 0), vec(1, 0, 0), 21600, 14400), face(vec(0, 0, 0), vec(0, 1, 0), vec(0, 0, 1), 21600, 14400)},
		{base, face(vec(28800, 21600, 0), vec(0, -1, 0), vec(0, 0, 1), 21600, 14400), face(vec(0, 0, 0), vec(0, 1, 0), vec(0, 0, 1), 21600, 14400)},
	} {
		if got, e := program.Fold(f, mask); e != api.OK || !slices.Equal(got, want) {
			t.Error(mask, got, e)
		}
		if got, e := program.Model(channel(), mask); e != api.OK || !slices.Equal(got, want) {
			t.Error("model", mask, got, e)
		}
	}
}

// pattern is a base that does not begin at 0, 0, with a flange a at its north side and a flange b at the left side of a; a has a hole, b and the base have forms.
func pattern() api.Flat {
	return api.Flat{
		Rects: []api.Rect{rect(100, -50, 60, 30), rect(110, -20, 40, 25), rect(95, -15, 15, 12)},
		Cuts:  []api.Rect{rect(120, -10, 5, 3)},
		Forms: []api.Rect{rect(97, -12, 2, 4), rect(130, -40, 7, 8)},
		Bends: []api.BendLine{
			{Flange: 0, Parent: 0, Line: segment(110, -20, 150, -20), Angle: 90, Deduct: 4},
			{Flange: 1, Parent: 1, Line: segment(110, -15, 110, -3), Angle: -90, Deduct: 3},
		},
	}
}

func TestFoldedPattern(t *testing.T) {
	base := face(vec(100, -50, 0), vec(1, 0, 0), vec(0, 1, 0), 60, 30)
	baseForm := face(vec(130, -40, 0), base.U, base.V, 7, 8)
	// Along its side, b begins at the lower end: 5 above the line of a in the flat pattern, and 9 in space.
	for _, x := range []struct {
		mask     int
		angles   [2]int
		a, b     api.Face
		cut, bed api.Face
	}{
		{0, [2]int{90, -90},
			face(vec(110, -20, 0), vec(1, 0, 0), vec(0, 1, 0), 40, 29), face(vec(110, -11, 0), vec(0, 1, 0), vec(-1, 0, 0), 12, 18),
			face(vec(120, -6, 0), vec(1, 0, 0), vec(0, 1, 0), 5, 3), face(vec(96, -8, 0), vec(0, 1, 0), vec(-1, 0, 0), 4, 2)},
		{1, [2]int{90, -90},
			face(vec(110, -20, 0), vec(1, 0, 0), vec(0, 0, 1), 40, 29), face(vec(110, -20, 9), vec(0, 0, 1), vec(-1, 0, 0), 12, 18),
			face(vec(120, -20, 14), vec(1, 0, 0), vec(0, 0, 1), 5, 3), face(vec(96, -20, 12), vec(0, 0, 1), vec(-1, 0, 0), 4, 2)},
		{2, [2]int{90, -90},
			face(vec(110, -20, 0), vec(1, 0, 0), vec(0, 1, 0), 40, 29), face(vec(110, -11, 0), vec(0, 1, 0), vec(0, 0, -1), 12, 18),
			face(vec(120, -6, 0), vec(1, 0, 0), vec(0, 1, 0), 5, 3), face(vec(110, -8, -14), vec(0, 1, 0), vec(0, 0, -1), 4, 2)},
		{3, [2]int{90, -90},
			face(vec(110, -20, 0), vec(1, 0, 0), vec(0, 0, 1), 40, 29), face(vec(110, -20, 9), vec(0, 0, 1), vec(0, 1, 0), 12, 18),
			face(vec(120, -20, 14), vec(1, 0, 0), vec(0, 0, 1), 5, 3), face(vec(110, -6, 12), vec(0, 0, 1), vec(0, 1, 0), 4, 2)},
		{3, [2]int{-90, 90},
			face(vec(110, -20, 0), vec(1, 0, 0), vec(0, 0, -1), 40, 29), face(vec(110, -20, -9), vec(0, 0, -1), vec(0, 1, 0), 12, 18),
			face(vec(120, -20, -14), vec(1, 0, 0), vec(0, 0, -1), 5, 3), face(vec(110, -6, -12), vec(0, 0, -1), vec(0, 1, 0), 4, 2)},
		{3, [2]int{180, -180},
			face(vec(110, -20, 0), vec(1, 0, 0), vec(0, -1, 0), 40, 29), face(vec(110, -29, 0), vec(0, -1, 0), vec(1, 0, 0), 12, 18),
			face(vec(120, -34, 0), vec(1, 0, 0), vec(0, -1, 0), 5, 3), face(vec(124, -32, 0), vec(0, -1, 0), vec(1, 0, 0), 4, 2)},
		{2, [2]int{-180, 180},
			face(vec(110, -20, 0), vec(1, 0, 0), vec(0, 1, 0), 40, 29), face(vec(110, -11, 0), vec(0, 1, 0), vec(1, 0, 0), 12, 18),
			face(vec(120, -6, 0), vec(1, 0, 0), vec(0, 1, 0), 5, 3), face(vec(124, -8, 0), vec(0, 1, 0), vec(1, 0, 0), 4, 2)},
	} {
		f := pattern()
		f.Bends[0].Angle, f.Bends[1].Angle = x.angles[0], x.angles[1]
		if got, e := program.Fold(f, x.mask); e != api.OK || !slices.Equal(got, []api.Face{base, x.a, x.b}) {
			t.Error(x.mask, x.angles, got, e)
		}
		if got, e := program.FoldHoles(f, x.mask); e != api.OK || !slices.Equal(got, []api.Face{x.cut, x.bed, baseForm}) {
			t.Error("holes", x.mask, x.angles, got, e)
		}
	}
}

// TestFirstFaceOfHoles has holes that touch the border of faces, and faces that overlap: a hole belongs to the first one that contains it.
func TestFirstFaceOfHoles(t *testing.T) {
	f := api.Flat{
		Rects: []api.Rect{rect(0, 0, 10, 10), rect(10, 0, 10, 10), rect(10, -30, 10, 30)},
		Cuts:  []api.Rect{rect(0, 0, 10, 10), rect(10, 0, 10, 10), rect(10, 4, 1, 1), rect(9, 4, 1, 1)},
		Forms: []api.Rect{rect(19, -30, 1, 30)},
		Bends: []api.BendLine{
			{Flange: 0, Parent: 0, Line: segment(10, 0, 10, 10), Angle: 90, Deduct: 1},
			{Flange: 1, Parent: 1, Line: segment(10, 0, 20, 0), Angle: 90},
		},
	}
	// In space the deduction of the first flange moves what is on it outward.
	want := []api.Face{
		face(vec(0, 0, 0), vec(1, 0, 0), vec(0, 1, 0), 10, 10),
		face(vec(11, 10, 0), vec(0, -1, 0), vec(1, 0, 0), 10, 10),
		face(vec(11, 5, 0), vec(0, -1, 0), vec(1, 0, 0), 1, 1),
		face(vec(9, 4, 0), vec(1, 0, 0), vec(0, 1, 0), 1, 1),
		face(vec(21, 0, 0), vec(-1, 0, 0), vec(0, -1, 0), 1, 30),
	}
	if got, e := program.FoldHoles(f, 0); e != api.OK || !slices.Equal(got, want) {
		t.Error(got, e)
	}
	f.Rects[2], f.Forms = rect(10, 0, 5, 10), nil
	f.Bends[1] = api.BendLine{Flange: 1, Parent: 0, Line: segment(10, 0, 10, 10), Angle: 90}
	if got, e := program.FoldHoles(f, 3); e != api.OK || got[2] != face(vec(10, 5, 1), vec(0, -1, 0), vec(0, 0, 1), 1, 1) {
		t.Error("in two faces", got, e)
	}
}

// fault is a change that makes a pattern wrong, and the error.
type fault struct {
	name string
	want api.Errno
	make func(f *api.Flat)
}

func faults() []fault {
	l := []fault{
		{"no rectangles", api.ErrArg, func(f *api.Flat) { f.Rects = nil }},
		{"too many rectangles", api.ErrArg, func(f *api.Flat) { f.Rects = make([]api.Rect, api.MaxRects+1) }},
		{"no rectangle", api.ErrArg, func(f *api.Flat) { f.Rects[1].W = 0 }},
		{"no cut", api.ErrArg, func(f *api.Flat) { f.Cuts[0].H = -1 }},
		{"no form", api.ErrArg, func(f *api.Flat) { f.Forms[1].X = top }},
		{"no bend", api.ErrArg, func(f *api.Flat) { f.Bends = nil }},
		{"a bend less", api.ErrArg, func(f *api.Flat) { f.Bends = f.Bends[:1] }},
		{"a bend more", api.ErrArg, func(f *api.Flat) { f.Bends = append(f.Bends, f.Bends[1]) }},
		{"a rectangle more", api.ErrArg, func(f *api.Flat) { f.Rects = append(f.Rects, rect(500, 500, 1, 1)) }},
		{"the numbers of the flanges", api.ErrArg, func(f *api.Flat) { f.Bends[0].Flange, f.Bends[1].Flange = 1, 0 }},
		{"a number twice", api.ErrArg, func(f *api.Flat) { f.Bends[1].Flange = 0 }},
		{"its own parent", api.ErrArg, func(f *api.Flat) { f.Bends[0].Parent = 1 }},
		{"a later parent", api.ErrArg, func(f *api.Flat) { f.Bends[1].Parent = 2 }},
		{"a negative parent", api.ErrArg, func(f *api.Flat) { f.Bends[1].Parent = -1 }},
		{"a deduction below 0", api.ErrArg, func(f *api.Flat) { f.Bends[1].Deduct = -1 }},
		{"a deduction above all", api.ErrArg, func(f *api.Flat) { f.Bends[0].Deduct = top + 1 }},
		{"another parent", api.ErrShape, func(f *api.Flat) { f.Bends[1].Parent = 0 }},
		{"a line back", api.ErrShape, func(f *api.Flat) { f.Bends[0].Line = segment(150, -20, 110, -20) }},
		{"a line down", api.ErrShape, func(f *api.Flat) { f.Bends[1].Line = segment(110, -3, 110, -15) }},
		{"a spot", api.ErrShape, func(f *api.Flat) { f.Bends[0].Line.X2 = 110 }},
		{"no line", api.ErrShape, func(f *api.Flat) { f.Bends[0].Line = api.Segment{} }},
		{"an oblique line", api.ErrShape, func(f *api.Flat) { f.Bends[0].Line.Y2 = 5 }},
		{"a shorter line", api.ErrShape, func(f *api.Flat) { f.Bends[0].Line.X1++ }},
		{"a longer line", api.ErrShape, func(f *api.Flat) { f.Bends[1].Line.Y2++ }},
		{"the far side", api.ErrShape, func(f *api.Flat) { f.Bends[0].Line = segment(110, 5, 150, 5) }},
		{"a side that crosses", api.ErrShape, func(f *api.Flat) { f.Bends[0].Line = segment(110, -20, 110, 5) }},
		{"the parent's whole side", api.ErrShape, func(f *api.Flat) { f.Bends[0].Line = segment(100, -20, 160, -20) }},
		{"beyond the beginning of the parent", api.ErrShape, func(f *api.Flat) { f.Rects[0].X, f.Rects[0].W = 111, 49 }},
		{"beyond the end of the parent", api.ErrShape, func(f *api.Flat) { f.Rects[0].W = 49 }},
		{"a gap to the parent", api.ErrShape, func(f *api.Flat) { f.Rects[0].H = 29 }},
		{"in the parent", api.ErrShape, func(f *api.Flat) { f.Rects[0].H = 31 }},
		{"on the parent's side of the line", api.ErrShape, func(f *api.Flat) { f.Rects[1].Y, f.Rects[1].H = -45, 25 }},
		{"the parent on the flange's side", api.ErrShape, func(f *api.Flat) { f.Rects[0].Y = -20 }},
		{"b in a", api.ErrShape, func(f *api.Flat) { f.Rects[2].X = 110 }},
		{"b beyond a", api.ErrShape, func(f *api.Flat) { f.Rects[2].Y, f.Bends[1].Line.Y1 = -21, -21; f.Rects[2].H = 18 }},
	}
	for _, n := range []int{0, 1, 45, -45, 89, 91, 30, 60, 120, 150, 179, 181, 270, 360} {
		l = append(l, fault{fmt.Sprint("the angle ", n), api.ErrArg, func(f *api.Flat) { f.Bends[1].Angle = n }})
	}
	for i, n := range wild {
		l = append(l,
			fault{"wild flange", api.ErrArg, func(f *api.Flat) { f.Bends[0].Flange = n }},
			fault{"wild parent", api.ErrArg, func(f *api.Flat) { f.Bends[1].Parent = n }},
			fault{"wild angle", api.ErrArg, func(f *api.Flat) { f.Bends[0].Angle = n }},
			fault{"wild deduction", api.ErrArg, func(f *api.Flat) { f.Bends[0].Deduct = n }},
			fault{"wild line", api.ErrArg, func(f *api.Flat) {
				*[]*int{&f.Bends[0].Line.X1, &f.Bends[0].Line.Y1, &f.Bends[0].Line.X2, &f.Bends[0].Line.Y2}[i%4] = n
			}},
			fault{"wild rectangle", api.ErrArg, func(f *api.Flat) {
				*[]*int{&f.Rects[2].X, &f.Rects[2].Y, &f.Rects[2].W, &f.Rects[2].H}[i%4] = n
			}},
		)
	}
	return l
}

func TestErrorsOfFold(t *testing.T) {
	for _, x := range faults() {
		for _, mask := range []int{0, 3} {
			f := pattern()
			x.make(&f)
			if got, e := program.Fold(f, mask); e != x.want || len(got) != 0 {
				t.Error(x.name, got, e)
			}
			if got, e := program.FoldHoles(f, mask); e != x.want || len(got) != 0 {
				t.Error("holes", x.name, got, e)
			}
		}
		// A wrong mask comes before a wrong shape.
		f := pattern()
		x.make(&f)
		if _, e := program.Fold(f, 4); e != api.ErrArg {
			t.Error("and a wrong mask", x.name, e)
		}
	}
	for _, mask := range append(wild, -1, 4, 7, 8) {
		if got, e := program.Fold(pattern(), mask); e != api.ErrArg || len(got) != 0 {
			t.Error(mask, got, e)
		}
		if got, e := program.FoldHoles(pattern(), mask); e != api.ErrArg || len(got) != 0 {
			t.Error(mask, got, e)
		}
	}
	// Whatever is wrong in a later bend, ErrArg comes first.
	f := pattern()
	f.Bends[0].Line.X1++
	f.Bends[1].Angle = 1
	if _, e := program.Fold(f, 0); e != api.ErrArg {
		t.Error(e)
	}
	if l, e := program.Fold(api.Flat{}, 0); e != api.ErrArg || len(l) != 0 {
		t.Error(l, e)
	}
}

func TestErrorsOfHoles(t *testing.T) {
	for _, r := range []api.Rect{rect(99, -45, 5, 5), rect(155, -45, 6, 5), rect(120, -51, 5, 5), rect(120, -22, 5, 5), rect(108, -10, 4, 4), rect(500, 500, 1, 1)} {
		cutting, forming := pattern(), pattern()
		cutting.Cuts = append(cutting.Cuts, r)
		forming.Forms = append([]api.Rect{r}, forming.Forms...)
		for _, f := range []api.Flat{cutting, forming} {
			if got, e := program.FoldHoles(f, 0); e != api.ErrShape || len(got) != 0 {
				t.Error(r, got, e)
			}
			if got, e := program.Fold(f, 0); e != api.OK || len(got) != 3 {
				t.Error("Fold does not look at holes", r, got, e)
			}
			if _, e := program.FoldHoles(f, 4); e != api.ErrArg {
				t.Error("and a wrong mask", e)
			}
		}
	}
	bare := pattern()
	bare.Cuts, bare.Forms = nil, nil
	if got, e := program.FoldHoles(bare, 1); e != api.OK || len(got) != 0 {
		t.Error("no holes", got, e)
	}
}

func TestLimitsOfFold(t *testing.T) {
	// A chain of five flanges is the longest; one bend more is too many.
	f := api.Flat{Rects: []api.Rect{rect(0, 0, 10, 10)}}
	for i := range api.MaxFlanges + 1 {
		f.Rects = append(f.Rects, rect(0, 10*i+10, 10, 10))
		f.Bends = append(f.Bends, api.BendLine{Flange: i, Parent: i, Line: segment(0, 10*i+10, 10, 10*i+10), Angle: 90, Deduct: 2})
		got, e := program.Fold(f, 1<<(i+1)-1)
		if i < api.MaxFlanges && (e != api.OK || len(got) != i+2) || i == api.MaxFlanges && (e != api.ErrArg || len(got) != 0) {
			t.Error(i, got, e)
		}
	}
	one := api.Flat{Rects: []api.Rect{rect(-top, -top, 2*top-top, 5)}}
	if got, e := program.Fold(one, 0); e != api.OK || !slices.Equal(got, []api.Face{face(vec(-top, -top, 0), vec(1, 0, 0), vec(0, 1, 0), top, 5)}) {
		t.Error(got, e)
	}
	if _, e := program.Fold(one, 1); e != api.ErrArg {
		t.Error("no flange", e)
	}
	far := pattern()
	far.Bends[0].Deduct = top
	got, e := program.Fold(far, 3)
	if e != api.OK || got[1].H != 25+top || got[2].Origin != vec(110, -20, 5+top) {
		t.Error("the greatest deduction", got, e)
	}
}

// randomPart returns a valid part of the table's material with up to five flanges and up to six holes.
func randomPart(r *rand.Rand, size int) api.Part {
	number := func(n int) int { return 1 + r.Intn(max(1, n)) }
	flanges, holes := r.Intn(api.MaxFlanges+1), r.Intn(api.MaxHoles+1)
	for {
		p := api.Part{Name: "p", Material: "steel", Gauge: 10, Width: 3 + r.Intn(size), Height: 3 + r.Intn(size)}
		sizes := [][2]int{{p.Width, p.Height}}
		for i := range flanges {
			parent, side := r.Intn(i+1), r.Intn(4)
			length := sizes[parent][1-side%2]
			f := api.Flange{Name: string(rune('a' + i)), Parent: parent, Side: side, Width: number(length), Length: 2 + number(size)}
			f.Offset = r.Intn(length - f.Width + 1)
			f.Angle = []int{90, 90, -90, -90, 180, -180}[r.Intn(6)]
			p.Flanges = append(p.Flanges, f)
			sizes = append(sizes, [2]int{f.Width, f.Length})
		}
		for range r.Intn(holes + 1) {
			face := r.Intn(len(sizes))
			h := api.Hole{Face: face, Kind: number(2), W: number(3), H: number(3)}
			h.X, h.Y = number(sizes[face][0]-1-h.W), number(sizes[face][1]-1-h.H)
			p.Holes = append(p.Holes, h)
		}
		if part.Validate(p) == api.OK {
			return p
		}
	}
}

// inTicks returns a face of units in ticks.
func inTicks(f api.Face) api.Face {
	return face(vec(720*f.Origin.X, 720*f.Origin.Y, 720*f.Origin.Z), f.U, f.V, 720*f.W, 720*f.H)
}

// holesOf returns the holes of a part in ticks: first those that are cut, then the forms.
func holesOf(t *testing.T, p api.Part, mask int) []api.Face {
	t.Helper()
	var l []api.Face
	for _, kind := range []int{api.CutHole, api.FormHole} {
		for i, h := range p.Holes {
			if h.Kind != kind {
				continue
			}
			f, e := part.HoleFace(p, i, mask)
			if e != api.OK {
				t.Fatal(p, e)
			}
			l = append(l, inTicks(f))
		}
	}
	return l
}

// turned returns a point after quarter turns counterclockwise, seen from above.
func turned(v api.Vec, turns int) api.Vec {
	for range turns {
		v = vec(-v.Y, v.X, v.Z)
	}
	return v
}

// checkTurned holds that a pattern that is turned and settled is folded to the same flanges, turned and moved.
func checkTurned(t *testing.T, f api.Flat, mask, turns int) {
	t.Helper()
	other, e := flat.Quarter(f, turns)
	if e != api.OK {
		t.Fatal(f, e)
	}
	before, _ := program.Fold(f, mask)
	after, e := program.Fold(other, mask)
	if e != api.OK || len(after) != len(before) {
		t.Fatal(f, other, e)
	}
	a, b := f.Rects[0], other.Rects[0]
	p, q := turned(vec(a.X, a.Y, 0), turns), turned(vec(a.X+a.W, a.Y+a.H, 0), turns)
	dx, dy := b.X-min(p.X, q.X), b.Y-min(p.Y, q.Y)
	for i, x := range before[1:] {
		o := turned(x.Origin, turns)
		if after[i+1] != face(vec(o.X+dx, o.Y+dy, o.Z), turned(x.U, turns), turned(x.V, turns), x.W, x.H) {
			t.Fatal(turns, f, i, x, after[i+1])
		}
	}
}

func TestFoldOfRandomParts(t *testing.T) {
	r := rand.New(rand.NewSource(85))
	flanges, holes := 0, 0
	for range 6000 {
		p := randomPart(r, 6+r.Intn(25))
		x := table()
		x.Entries[0].Num, x.Entries[1].Num = r.Intn(8), r.Intn(4)
		f, e := flat.Unfold(p, x)
		if e != api.OK {
			continue
		}
		full := 1<<len(p.Flanges) - 1
		for mask := range full + 1 {
			faces, _ := part.Faces(p, mask)
			want := make([]api.Face, 0, len(faces))
			for _, face := range faces {
				want = append(want, inTicks(face))
			}
			if got, e := program.Fold(f, mask); e != api.OK || !slices.Equal(got, want) {
				t.Fatal(p, mask, got, e)
			}
			if got, e := program.Model(p, mask); e != api.OK || !slices.Equal(got, want) {
				t.Fatal("model", p, mask, got, e)
			}
			if got, e := program.FoldHoles(f, mask); e != api.OK || !slices.Equal(got, holesOf(t, p, mask)) {
				t.Fatal("holes", p, mask, got, e)
			}
		}
		checkTurned(t, f, r.Intn(full+1), r.Intn(4))
		flanges, holes = flanges+len(p.Flanges), holes+len(p.Holes)
	}
	if flanges < 2000 || holes < 1000 {
		t.Error("too few", flanges, holes)
	}
}

func TestFoldLeavesItsArguments(t *testing.T) {
	f := pattern()
	first, _ := program.Fold(f, 3)
	second, _ := program.Fold(f, 3)
	holes, _ := program.FoldHoles(f, 3)
	clear(first)
	clear(holes)
	again, _ := program.Fold(f, 3)
	if !reflect.DeepEqual(f, pattern()) || !slices.Equal(second, again) {
		t.Error(f, second, again)
	}
}

func TestErrorsOfModel(t *testing.T) {
	bad := channel()
	bad.Gauge = 0
	for _, mask := range append(wild, -1, 4) {
		if l, e := program.Model(channel(), mask); e != api.ErrArg || len(l) != 0 {
			t.Error(mask, l, e)
		}
		bad.Name = "Part"
		if l, e := program.Model(bad, mask); e != api.ErrName || len(l) != 0 {
			t.Error(mask, l, e)
		}
	}
	if l, e := program.Model(api.Part{}, 0); e != api.ErrName || len(l) != 0 {
		t.Error(l, e)
	}
	plain := channel()
	plain.Flanges = nil
	if l, e := program.Model(plain, 0); e != api.OK || !slices.Equal(l, []api.Face{face(vec(0, 0, 0), vec(1, 0, 0), vec(0, 1, 0), 28800, 21600)}) {
		t.Error(l, e)
	}
}
