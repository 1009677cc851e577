package copies_test

import (
	"reflect"
	"testing"

	"sheetmetal/api"
	"sheetmetal/copies"
)

func polygons() [][]api.Spot {
	return [][]api.Spot{{{X: 1, Y: 2}, {X: 3}}, {{Y: 4}}}
}

func machine() api.Machine {
	return api.Machine{
		Name:    "m",
		Punches: []api.Punch{{Name: "p", Length: 1, Polygons: polygons()}, {Name: "q", Polygons: polygons()}},
		Dies:    []api.Die{{Name: "d", Width: 2, Polygons: polygons()}},
		Frame:   polygons(),
		Gauge:   []api.Spot{{X: 5}, {Y: 6}},
	}
}

func rects(x int) []api.Rect {
	return []api.Rect{{X: x, W: 1, H: 1}, {X: x + 2, W: 1, H: 1}}
}

func sheet() api.Sheet {
	return api.Sheet{Name: "s", Clamps: rects(1), Used: rects(5)}
}

func layout() api.Layout {
	return api.Layout{Sheet: sheet(), Pieces: []api.Piece{
		{Name: "x", Rects: rects(10), Cuts: rects(20), Forms: rects(30)},
		{Name: "y", Rects: rects(40)},
	}}
}

func tables() []api.BendTable {
	return []api.BendTable{{Material: "steel", Gauge: 1, Die: 2, Entries: []api.Entry{{Angle: 90, Num: 1, Den: 2}}}, {Gauge: 3}}
}

func thing() api.Part {
	return api.Part{Name: "u", Width: 3, Flanges: []api.Flange{{Name: "a"}, {Name: "b"}}, Holes: []api.Hole{{X: 1}}}
}

// spoil sets all numbers and strings in v to zero values, as far as v can be changed through the memory that it has.
func spoil(v reflect.Value) {
	switch v.Kind() {
	case reflect.Slice:
		for i := range v.Len() {
			spoil(v.Index(i))
		}
	case reflect.Struct:
		for i := range v.NumField() {
			spoil(v.Field(i))
		}
	default:
		if v.CanSet() {
			v.SetZero()
		}
	}
}

func TestCopies(t *testing.T) {
	for _, x := range []struct {
		name          string
		given, copied any
		want          any
	}{
		check(machine, copies.Machine),
		check(tables, copies.Tables),
		check(thing, copies.Part),
		check(sheet, copies.Sheet),
		check(layout, copies.Layout),
	} {
		if !reflect.DeepEqual(x.copied, x.want) {
			t.Error(x.name, "is not copied", x.copied)
		}
		spoil(reflect.ValueOf(x.copied))
		if !reflect.DeepEqual(x.given, x.want) {
			t.Error(x.name, "shares memory with its copy", x.given)
		}
	}
}

// check returns a value, its copy, and the value once more.
func check[T any](value func() T, copied func(T) T) struct {
	name          string
	given, copied any
	want          any
} {
	given := value()
	return struct {
		name          string
		given, copied any
		want          any
	}{reflect.TypeFor[T]().String(), given, copied(given), value()}
}

func TestCopiesOfZeroValues(t *testing.T) {
	if m := copies.Machine(api.Machine{}); !reflect.DeepEqual(m, api.Machine{}) {
		t.Error(m)
	}
	if l := copies.Tables(nil); len(l) != 0 {
		t.Error(l)
	}
	if l := copies.Layout(api.Layout{}); !reflect.DeepEqual(l, api.Layout{}) {
		t.Error(l)
	}
}
