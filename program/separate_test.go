package program_test

import (
	"math/rand"
	"reflect"
	"slices"
	"testing"

	"sheetmetal/api"
	"sheetmetal/program"
)

func TestSeparate(t *testing.T) {
	s := sheet(100, 80)
	for _, x := range []struct {
		name  string
		lines []api.Segment
		want  [][]api.Rect
	}{
		{"nothing", nil, [][]api.Rect{{rect(0, 0, 100, 80)}}},
		{"along the border", []api.Segment{segment(0, 0, 100, 0), segment(100, 0, 100, 80)}, [][]api.Rect{{rect(0, 0, 100, 80)}}},
		{"part of the border", []api.Segment{segment(0, 30, 0, 50)}, [][]api.Rect{{rect(0, 0, 100, 30), rect(0, 30, 100, 20), rect(0, 50, 100, 30)}}},
		{"two halves", []api.Segment{segment(40, 0, 40, 80)}, [][]api.Rect{{rect(0, 0, 40, 80)}, {rect(40, 0, 60, 80)}}},
		{"one below the other", []api.Segment{segment(0, 30, 100, 30)}, [][]api.Rect{{rect(0, 0, 100, 30)}, {rect(0, 30, 100, 50)}}},
		{"a slit from the border", []api.Segment{segment(40, 0, 40, 79)}, [][]api.Rect{{rect(0, 0, 40, 79), rect(40, 0, 60, 79), rect(0, 79, 40, 1), rect(40, 79, 60, 1)}}},
		{"a slit within", []api.Segment{segment(20, 30, 40, 30)}, [][]api.Rect{{rect(0, 0, 20, 30), rect(20, 0, 20, 30), rect(40, 0, 60, 30), rect(0, 30, 20, 50), rect(20, 30, 20, 50), rect(40, 30, 60, 50)}}},
		{"two lines make one", []api.Segment{segment(40, 50, 40, 80), segment(40, 0, 40, 50)}, [][]api.Rect{{rect(0, 0, 40, 50), rect(0, 50, 40, 30)}, {rect(40, 0, 60, 50), rect(40, 50, 60, 30)}}},
		{"a cross", []api.Segment{segment(0, 30, 100, 30), segment(40, 0, 40, 80)}, [][]api.Rect{{rect(0, 0, 40, 30)}, {rect(40, 0, 60, 30)}, {rect(0, 30, 40, 50)}, {rect(40, 30, 60, 50)}}},
		{"a corner", []api.Segment{segment(0, 30, 40, 30), segment(40, 0, 40, 30)}, [][]api.Rect{{rect(0, 0, 40, 30)}, {rect(40, 0, 60, 30), rect(0, 30, 40, 50), rect(40, 30, 60, 50)}}},
		{"a corner that is open by 1", []api.Segment{segment(0, 30, 39, 30), segment(40, 0, 40, 30)},
			[][]api.Rect{{rect(0, 0, 39, 30), rect(39, 0, 1, 30), rect(40, 0, 60, 30), rect(0, 30, 39, 50), rect(39, 30, 1, 50), rect(40, 30, 60, 50)}}},
		{"a hole", []api.Segment{segment(20, 30, 60, 30), segment(20, 50, 60, 50), segment(20, 30, 20, 50), segment(60, 30, 60, 50)},
			[][]api.Rect{{rect(0, 0, 20, 30), rect(20, 0, 40, 30), rect(60, 0, 40, 30), rect(0, 30, 20, 20), rect(60, 30, 40, 20), rect(0, 50, 20, 30), rect(20, 50, 40, 30), rect(60, 50, 40, 30)}, {rect(20, 30, 40, 20)}}},
		{"the same line twice", []api.Segment{segment(40, 0, 40, 80), segment(40, 0, 40, 80), segment(40, 0, 40, 80)}, [][]api.Rect{{rect(0, 0, 40, 80)}, {rect(40, 0, 60, 80)}}},
	} {
		if got, e := program.Separate(s, x.lines); e != api.OK || !reflect.DeepEqual(got, x.want) {
			t.Error(x.name, got, e)
		}
	}
}

// TestOrderOfParts has a part around another one: it comes first, because its first rectangle does.
func TestOrderOfParts(t *testing.T) {
	lines := []api.Segment{segment(10, 10, 50, 10), segment(10, 30, 50, 30), segment(10, 10, 10, 30), segment(50, 10, 50, 30), segment(20, 0, 20, 10), segment(30, 10, 30, 30)}
	got, e := program.Separate(sheet(60, 40), lines)
	var firsts []api.Rect
	for _, part := range got {
		firsts = append(firsts, part[0])
	}
	if e != api.OK || !slices.Equal(firsts, []api.Rect{rect(0, 0, 10, 10), rect(10, 10, 10, 20), rect(30, 10, 20, 20)}) {
		t.Error(got, e)
	}
}

// mesh returns lines that divide a sheet of any size above 1000 into columns and rows.
func mesh(s api.Sheet, columns, rows int) []api.Segment {
	var l []api.Segment
	for i := 1; i < columns; i++ {
		l = append(l, segment(3*i, 0, 3*i, s.Height))
	}
	for i := 1; i < rows; i++ {
		l = append(l, segment(0, 4*i, s.Width, 4*i))
	}
	return l
}

// slits returns vertical lines at a number of X, of which no two have an end at the same Y: they divide a sheet into one column more than that, and into one row more than they have ends.
func slits(columns, n int) []api.Segment {
	var l []api.Segment
	for i := range n {
		l = append(l, segment(1+i%columns, 2*i+1, 1+i%columns, 2*i+2))
	}
	return l
}

func TestErrorsOfSeparate(t *testing.T) {
	s := sheet(1000, 2000)
	for _, x := range []struct {
		name  string
		s     api.Sheet
		lines []api.Segment
		want  api.Errno
	}{
		{"no sheet", api.Sheet{}, make([]api.Segment, 201), api.ErrName},
		{"no width", sheet(0, 1), make([]api.Segment, 201), api.ErrArg},
		{"201 lines", s, slices.Repeat([]api.Segment{segment(0, 1, 1, 1)}, 201), api.ErrLarge},
		{"201 lines that are none", s, make([]api.Segment, 201), api.ErrLarge},
		{"200 lines that are none", s, make([]api.Segment, 200), api.ErrArg},
		{"6004 rectangles", s, mesh(s, 76, 79), api.ErrLarge},
		{"6001 rectangles", s, slits(16, 176), api.ErrLarge},
		{"6004 rectangles and no line", s, append(mesh(s, 76, 79), segment(1, 1, 1, 1)), api.ErrArg},
		{"no line", s, []api.Segment{{}}, api.ErrArg},
		{"a spot", s, []api.Segment{segment(3, 4, 3, 4)}, api.ErrArg},
		{"to the left", s, []api.Segment{segment(4, 4, 3, 4)}, api.ErrArg},
		{"downwards", s, []api.Segment{segment(4, 4, 4, 3)}, api.ErrArg},
		{"oblique", s, []api.Segment{segment(4, 4, 5, 5)}, api.ErrArg},
		{"oblique and downwards", s, []api.Segment{segment(4, 4, 5, 3)}, api.ErrArg},
		{"from the left of the sheet", s, []api.Segment{segment(-1, 4, 5, 4)}, api.ErrArg},
		{"from below the sheet", s, []api.Segment{segment(1, -1, 1, 4)}, api.ErrArg},
		{"to the right of the sheet", s, []api.Segment{segment(1, 4, 1001, 4)}, api.ErrArg},
		{"to above the sheet", s, []api.Segment{segment(1, 4, 1, 2001)}, api.ErrArg},
		{"right of the sheet", s, []api.Segment{segment(1001, 4, 1001, 5)}, api.ErrArg},
		{"the second", s, []api.Segment{segment(1, 4, 1, 5), segment(1, 5, 1, 4)}, api.ErrArg},
	} {
		if got, e := program.Separate(x.s, x.lines); e != x.want || len(got) != 0 {
			t.Error(x.name, len(got), e)
		}
	}
	for _, n := range wild {
		for _, l := range []api.Segment{segment(n, 1, 5, 1), segment(1, 1, n, 1), segment(1, n, 5, n), segment(1, n, 1, 5), segment(1, 1, 1, n), segment(n, 1, n, 5), segment(n, n, n, n)} {
			if got, e := program.Separate(s, []api.Segment{l}); e != api.ErrArg || len(got) != 0 {
				t.Error(l, got, e)
			}
		}
	}
}

func TestLimitsOfSeparate(t *testing.T) {
	s := sheet(1000, 2000)
	got, e := program.Separate(s, mesh(s, 75, 80))
	if e != api.OK || len(got) != 6000 {
		t.Error("6000 rectangles", len(got), e)
	}
	if got, e := program.Separate(s, slits(16, 175)); e != api.OK || len(got) != 1 || len(got[0]) != 17*351 {
		t.Error("5967 rectangles", len(got), e)
	}
	if got, e := program.Separate(s, slices.Repeat([]api.Segment{segment(0, 1, 1000, 1)}, 200)); e != api.OK || len(got) != 2 {
		t.Error("200 lines", len(got), e)
	}
	large := sheet(top, top)
	want := [][]api.Rect{{rect(0, 0, 1, top)}, {rect(1, 0, top-1, top)}}
	if got, e := program.Separate(large, []api.Segment{segment(1, 0, 1, top)}); e != api.OK || !reflect.DeepEqual(got, want) {
		t.Error("a large sheet", got, e)
	}
}

// flooded returns for each square of side 1 of a sheet, by X and Y, the number of its part: the parts that are not separated by strokes, in the order of Y and X.
func flooded(w, h int, walls strokes) [][]int {
	l := make([][]int, w)
	for x := range l {
		l[x] = make([]int, h)
	}
	n := 0
	var flood func(x, y int)
	flood = func(x, y int) {
		if x < 0 || y < 0 || x >= w || y >= h || l[x][y] != 0 {
			return
		}
		l[x][y] = n
		if !walls.up[[2]int{x, y}] {
			flood(x-1, y)
		}
		if !walls.up[[2]int{x + 1, y}] {
			flood(x+1, y)
		}
		if !walls.across[[2]int{x, y}] {
			flood(x, y-1)
		}
		if !walls.across[[2]int{x, y + 1}] {
			flood(x, y+1)
		}
	}
	for y := range h {
		for x := range w {
			if l[x][y] == 0 {
				n++
				flood(x, y)
			}
		}
	}
	return l
}

// wantParts returns the parts of a sheet by a flood of squares, cut along the whole lines through all ends.
func wantParts(w, h int, lines []api.Segment) [][]api.Rect {
	number := flooded(w, h, newStrokes(lines...))
	xs, ys := []int{0, w}, []int{0, h}
	for _, l := range lines {
		xs, ys = append(xs, l.X1, l.X2), append(ys, l.Y1, l.Y2)
	}
	slices.Sort(xs)
	slices.Sort(ys)
	xs, ys = slices.Compact(xs), slices.Compact(ys)
	var parts [][]api.Rect
	for j := range len(ys) - 1 {
		for i := range len(xs) - 1 {
			n := number[xs[i]][ys[j]]
			if n > len(parts) {
				parts = append(parts, nil)
			}
			parts[n-1] = append(parts[n-1], rect(xs[i], ys[j], xs[i+1]-xs[i], ys[j+1]-ys[j]))
		}
	}
	return parts
}

// randomLine returns a line on a sheet, often from border to border or along a whole number of threes.
func randomLine(r *rand.Rand, w, h int) api.Segment {
	x1, x2, y1, y2 := r.Intn(w), 0, r.Intn(h), 0
	if r.Intn(2) == 0 {
		x1, y1 = x1/3*3, y1/3*3
	}
	x2, y2 = x1+1+r.Intn(w-x1), y1+1+r.Intn(h-y1)
	if r.Intn(4) == 0 {
		x1, x2, y1, y2 = 0, w, 0, h
	}
	if r.Intn(2) == 0 {
		y := r.Intn(h + 1)
		return segment(x1, y, x2, y)
	}
	x := r.Intn(w + 1)
	return segment(x, y1, x, y2)
}

func TestSeparateByRandomLines(t *testing.T) {
	r := rand.New(rand.NewSource(83))
	parts := 0
	for range 10000 {
		w, h := 1+r.Intn(14), 1+r.Intn(14)
		var lines []api.Segment
		for range r.Intn(16) {
			lines = append(lines, randomLine(r, w, h))
		}
		want := wantParts(w, h, lines)
		got, e := program.Separate(sheet(w, h), lines)
		if e != api.OK || !reflect.DeepEqual(got, want) {
			t.Fatal(w, h, lines, got, e)
		}
		parts += len(got)
	}
	if parts < 30000 {
		t.Error("too few parts", parts)
	}
}

// The lists of a result share no memory: what is done to one changes no other.
func TestPartsAreApart(t *testing.T) {
	s := sheet(60, 40)
	lines := mesh(s, 10, 2)
	lines = append(lines, segment(40, 30, 50, 30))
	want, e := program.Separate(s, lines)
	got, _ := program.Separate(s, lines)
	if e != api.OK || len(got) < 10 {
		t.Fatal(got, e)
	}
	for i := range got {
		changed := append(got[i], rect(1, 2, 3, 4))
		clear(changed)
		clear(got[i])
		for j := i + 1; j < len(got); j++ {
			if !slices.Equal(got[j], want[j]) {
				t.Error(i, j, got[j])
			}
		}
	}
}
