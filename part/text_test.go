package part_test

import (
	"math/rand"
	"strings"
	"testing"

	"sheetmetal/api"
	"sheetmetal/part"
)

// towerText is the text of the part tower.
const towerText = `part tower
material alu 20
grain y
base 50 60
flange f1 base east 5 40 30 up
flange f2 f1 north 5 30 25 down
flange f3 f2 east 5 15 20 closeup
flange f4 f3 west 2 12 10 closedown
flange f5 f4 north 1 9 8 up
hole base cut 2 3 4 5
hole f2 form 1 1 28 23
hole f5 cut 3 2 3 4
`

// plainText is the text of a part without flanges and holes.
const plainText = "part p\nmaterial m 1\nbase 2 3\n"

func TestFormat(t *testing.T) {
	south := changed(u(), func(p *api.Part) {
		p.Grain = api.GrainX
		p.Flanges = []api.Flange{{Name: "s", Side: api.South, Offset: 10, Width: 20, Length: 5, Angle: -90}}
	})
	for _, x := range []struct {
		p    api.Part
		want string
	}{
		{u(), "part u\nmaterial steel 10\nbase 40 30\nflange a base east 0 30 20 up\nflange b base west 0 30 20 up\n"},
		{tower(), towerText},
		{south, "part u\nmaterial steel 10\ngrain x\nbase 40 30\nflange s base south 10 20 5 down\n"},
		{api.Part{Name: "p", Material: "m", Gauge: 1, Width: 2, Height: 3}, plainText},
	} {
		if s, e := part.Format(x.p); s != x.want || e != api.OK {
			t.Errorf("%q, %v", s, e)
		}
		if p, e := part.Parse(x.want); e != api.OK || !part.Equal(p, x.p) {
			t.Error(p, e)
		}
	}
}

func TestFormatErrors(t *testing.T) {
	for want, p := range broken() {
		if s, e := part.Format(p); s != "" || e != want {
			t.Errorf("%v: %q, %v", want, s, e)
		}
	}
}

func TestParseOfRandomParts(t *testing.T) {
	r := rand.New(rand.NewSource(4))
	for range 3000 {
		p := randomPart(r)
		s, e := part.Format(p)
		if e != api.OK {
			t.Fatal(p, e)
		}
		if got, e := part.Parse(s); e != api.OK || !part.Equal(got, p) {
			t.Fatal(s, got, e)
		}
	}
}

// refused checks that a text is no part's.
func refused(t *testing.T, text string) {
	t.Helper()
	if p, e := part.Parse(text); e != api.ErrSyntax || !part.Equal(p, api.Part{}) {
		t.Errorf("%q: %v, %v", text, p, e)
	}
}

func TestParseRefusesOtherForms(t *testing.T) {
	for _, x := range [][2]string{
		// What is wanted, and what is written instead of it.
		{"part tower\n", ""},
		{"part tower\n", "part tower\npart tower\n"},
		{"part tower", "part"},
		{"part tower", "part "},
		{"part tower", "Part tower"},
		{"part tower", "part tower x"},
		{"part tower", "part  tower"},
		{"part tower", " part tower"},
		{"part tower", "part tower "},
		{"part tower", "part\ttower"},
		{"part tower\n", "part tower\r\n"},
		{"part tower\n", "part tower\n\n"},
		{"part tower", "part Tower"},
		{"part tower", "part base"},
		{"material alu 20\n", ""},
		{"material alu 20", "material 20 alu"},
		{"material alu 20", "material alu 0"},
		{"material alu 20", "material alu 61"},
		{"material alu 20", "material alu 020"},
		{"material alu 20", "material alu +20"},
		{"material alu 20", "material alu 20."},
		{"material alu 20", "material alu 2_0"},
		{"material alu 20", "material alu 0x14"},
		{"material alu 20", "material alu 18446744073709551636"},
		{"material alu 20", "material alu \u0662"},
		{"material alu 20", "material alu"},
		{"grain y", "grain z"},
		{"grain y", "grain"},
		{"grain y", "grain "},
		{"grain y", "grain 2"},
		{"grain y", "grain any"},
		{"grain y", "grain x\ngrain y"},
		{"grain y", "grain x y"},
		{"base 50 60\n", ""},
		{"base 50 60", "base 50"},
		{"base 50 60", "base 50 60 70"},
		{"base 50 60", "base 50 0"},
		{"base 50 60", "base 50 151"},
		{"base 50 60", "base -50 60"},
		{"base 50 60", "base 50 60\nbase 50 60"},
		{"grain y\nbase 50 60", "base 50 60\ngrain y"},
		{"f1 base", "f1 bases"},
		{"f1 base", "f1 f1"},
		{"f1 base", "f1 f2"},
		{"f1 base", "f1 0"},
		{"f1 base", "f1"},
		{"f2 f1", "f2 f3"},
		{"f2 f1", "f1 f1"},
		{"f2 f1", "base base"},
		{"base east", "base East"},
		{"base east", "base 0"},
		{"base east", "base up"},
		{"east 5 40", "east -0 40"},
		{"east 5 40", "east 05 40"},
		{"east 5 40", "east -5 40"},
		{"east 5 40", "east 21 40"},
		{"east 5 40", "east 40"},
		{"30 up", "30 90"},
		{"30 up", "30 Up"},
		{"30 up", "30 x"},
		{"30 up", "30 "},
		{"30 up", "30 up up"},
		{"30 up", "0 up"},
		{"25 down", "24 down"},
		{"closeup", "close up"},
		{"hole base", "hole top"},
		{"hole base", "hole 0"},
		{"hole base", "hole"},
		{"base cut", "base hole"},
		{"base cut", "base 1"},
		{"base cut", "base Form"},
		{"cut 2 3 4 5", "cut 2 3 4"},
		{"cut 2 3 4 5", "cut 2 3 4 5 6"},
		{"cut 2 3 4 5", "cut 2 3 4 05"},
		{"cut 2 3 4 5", "cut 0 3 4 5"},
		{"cut 2 3 4 5", "cut 2 3 48 5"},
		{"hole base cut 2 3 4 5\n", "hole base cut 2 3 4 5\nhole base cut 2 3 4 5\n"},
		{"hole base cut 2 3 4 5\n", "hole base cut 2 3 4 5\nhole base cut 6 3 4 5\n"},
		{"3 4\n", "3 4"},
		{"3 4\n", "3 4\n\n"},
		{"3 4\n", "3 4\n "},
		{"3 4\n", "3 4\nflange f6 base west 0 1 1 up\n"},
		{"3 4\n", "3 4\nhole base\n"},
		{"3 4\n", "3 4\nend\n"},
		{"3 4\n", "3 4\x00\n"},
		{"3 4\n", "3 4\nbase 50 60\n"},
	} {
		text := strings.Replace(towerText, x[0], x[1], 1)
		if text == towerText {
			t.Fatalf("%q is not in the text", x[0])
		}
		refused(t, text)
	}
}

func TestParseRefusesInvalidParts(t *testing.T) {
	for _, s := range []string{
		"", "\n", " ", "part", "part p", "part p\n", "part p\nmaterial m 1\n", plainText[:len(plainText)-1], plainText + "\n", plainText + plainText, "\x00", "\xff\xfe", "\ufeff" + plainText,
		// Six flanges, two in one place, and two that clash.
		"part p\nmaterial m 1\nbase 20 20\n" + strings.Repeat("flange a base east 0 1 1 up\n", 6),
		plainText + "flange a base east 0 3 1 up\nflange b base east 2 1 1 up\n",
		plainText + "flange a base east 0 3 1 up\nflange b a south 0 1 1 up\n",
		"part u\nmaterial steel 10\nbase 40 30\nflange a base east 0 30 20 up\nflange b base west 0 30 25 up\nflange c a north 0 30 50 up\n",
		strings.Repeat("hole base cut 1 1 1 1\n", 100),
		plainText + strings.Repeat("hole base cut 1 1 1 1\n", 300),
		plainText + strings.Repeat("flange a base east 0 1 1 up\n", 250),
		strings.Repeat("\n", api.MaxText), strings.Repeat(" ", api.MaxText), strings.Repeat("a", api.MaxText),
	} {
		refused(t, s)
	}
}

func TestParseLimit(t *testing.T) {
	for _, s := range []string{strings.Repeat("a", api.MaxText+1), plainText + strings.Repeat("\n", api.MaxText), strings.Repeat("\x00", 1<<20)} {
		if p, e := part.Parse(s); e != api.ErrLarge || !part.Equal(p, api.Part{}) {
			t.Error(len(s), p, e)
		}
	}
	refused(t, plainText+strings.Repeat("\n", api.MaxText-len(plainText)))
}

// TestParseOfChangedTexts changes bytes of texts: a text is taken if and only if it is the Format of the result.
func TestParseOfChangedTexts(t *testing.T) {
	r := rand.New(rand.NewSource(5))
	taken := 0
	for range 20000 {
		text := []byte(towerText)
		for range 1 + r.Intn(2) {
			at := r.Intn(len(text))
			switch r.Intn(3) {
			case 0:
				text[at] = towerText[r.Intn(len(towerText))]
			case 1:
				text = append(text[:at], text[at+1:]...)
			default:
				text = append(text[:at], append([]byte{towerText[r.Intn(len(towerText))]}, text[at:]...)...)
			}
		}
		p, e := part.Parse(string(text))
		switch e {
		case api.OK:
			taken++
			if s, e := part.Format(p); e != api.OK || s != string(text) {
				t.Errorf("%q: %v, %v", text, p, e)
			}
		case api.ErrSyntax:
			if !part.Equal(p, api.Part{}) {
				t.Errorf("%q: %v", text, p)
			}
		default:
			t.Errorf("%q: %v", text, e)
		}
	}
	if taken < 100 {
		t.Error("too few texts are taken", taken)
	}
}
