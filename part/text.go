package part

import (
	"strconv"
	"strings"

	"sheetmetal/api"
	"sheetmetal/texts"
)

// Format returns the text of p.
func Format(p api.Part) (string, api.Errno) {
	if e := Validate(p); e != api.OK {
		return "", e
	}
	return write(p), api.OK
}

// Parse returns the valid part whose Format is text.
func Parse(text string) (p api.Part, e api.Errno) {
	if len(text) > api.MaxText {
		return api.Part{}, api.ErrLarge
	}
	defer func() {
		if recover() != nil {
			p, e = api.Part{}, api.ErrSyntax
		}
	}()
	read := readPart(text)
	// The reader finds the only part that text may stand for. Whether it does (the part may be invalid, a number written in another way) is left to Format.
	if again, err := Format(read); err != api.OK || again != text {
		return api.Part{}, api.ErrSyntax
	}
	return read, api.OK
}

// meaning is a word of the text form and the number for which it stands.
type meaning struct {
	word   string
	number int
}

func grains() []meaning {
	return []meaning{{"x", api.GrainX}, {"y", api.GrainY}}
}

func sides() []meaning {
	return []meaning{{"east", api.East}, {"south", api.South}, {"west", api.West}, {"north", api.North}}
}

func angles() []meaning {
	return []meaning{{"up", 90}, {"down", -90}, {"closeup", 180}, {"closedown", -180}}
}

func kinds() []meaning {
	return []meaning{{"cut", api.CutHole}, {"form", api.FormHole}}
}

// faceNames returns the words for the faces of p.
func faceNames(p api.Part) []meaning {
	l := []meaning{{"base", 0}}
	for i, f := range p.Flanges {
		l = append(l, meaning{f.Name, i + 1})
	}
	return l
}

// wordFor returns the word of l that stands for n.
func wordFor(n int, l []meaning) string {
	for _, m := range l {
		if m.number == n {
			return m.word
		}
	}
	return ""
}

// write returns the text of a valid part.
func write(p api.Part) string {
	var b strings.Builder
	texts.WriteLine(&b, "part", p.Name)
	texts.WriteLine(&b, "material", p.Material, strconv.Itoa(p.Gauge))
	if p.Grain != api.AnyGrain {
		texts.WriteLine(&b, "grain", wordFor(p.Grain, grains()))
	}
	texts.WriteLine(&b, "base", strconv.Itoa(p.Width), strconv.Itoa(p.Height))
	names := faceNames(p)
	for _, f := range p.Flanges {
		texts.WriteLine(&b, "flange", f.Name, wordFor(f.Parent, names), wordFor(f.Side, sides()),
			strconv.Itoa(f.Offset), strconv.Itoa(f.Width), strconv.Itoa(f.Length), wordFor(f.Angle, angles()))
	}
	for _, x := range p.Holes {
		texts.WriteLine(&b, "hole", wordFor(x.Face, names), wordFor(x.Kind, kinds()),
			strconv.Itoa(x.X), strconv.Itoa(x.Y), strconv.Itoa(x.W), strconv.Itoa(x.H))
	}
	return b.String()
}
