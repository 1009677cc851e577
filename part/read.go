package part

import (
	"strconv"
	"strings"

	"sheetmetal/api"
)

// lines gives out the lines of a text one after the other. Like the functions below, its methods panic where the text has not the form of a part; Parse recovers it.
type lines struct {
	rest string
}

// begins reports whether the next line begins with the word.
func (l *lines) begins(word string) bool {
	return strings.HasPrefix(l.rest, word+" ")
}

// take takes the next line and returns the count words after its first one.
func (l *lines) take(first string, count int) []string {
	line, rest, ended := strings.Cut(l.rest, "\n")
	words := strings.Split(line, " ")
	if !ended || words[0] != first || len(words) != count+1 {
		panic(api.ErrSyntax)
	}
	l.rest = rest
	return words[1:]
}

// readPart returns the part, valid or not, that the text describes.
func readPart(text string) api.Part {
	l := &lines{rest: text}
	var p api.Part
	p.Name = l.take("part", 1)[0]
	material := l.take("material", 2)
	p.Material, p.Gauge = material[0], number(material[1])
	if l.begins("grain") {
		p.Grain = numberFor(l.take("grain", 1)[0], grains())
	}
	base := l.take("base", 2)
	p.Width, p.Height = number(base[0]), number(base[1])
	for l.begins("flange") {
		p.Flanges = append(p.Flanges, readFlange(l.take("flange", 7), p))
	}
	for l.begins("hole") {
		p.Holes = append(p.Holes, readHole(l.take("hole", 6), p))
	}
	if l.rest != "" {
		panic(api.ErrSyntax)
	}
	return p
}

// readFlange returns the flange of the words of a line; p has the flanges of the lines before.
func readFlange(words []string, p api.Part) api.Flange {
	return api.Flange{
		Name:   words[0],
		Parent: numberFor(words[1], faceNames(p)),
		Side:   numberFor(words[2], sides()),
		Offset: number(words[3]),
		Width:  number(words[4]),
		Length: number(words[5]),
		Angle:  numberFor(words[6], angles()),
	}
}

// readHole returns the hole of the words of a line; p has all flanges.
func readHole(words []string, p api.Part) api.Hole {
	return api.Hole{
		Face: numberFor(words[0], faceNames(p)),
		Kind: numberFor(words[1], kinds()),
		X:    number(words[2]),
		Y:    number(words[3]),
		W:    number(words[4]),
		H:    number(words[5]),
	}
}

// number returns the number that a word writes in decimal digits.
func number(word string) int {
	n, err := strconv.Atoi(word)
	if err != nil {
		panic(api.ErrSyntax)
	}
	return n
}

// numberFor returns the number for which a word of l stands.
func numberFor(word string, l []meaning) int {
	for _, m := range l {
		if m.word == word {
			return m.number
		}
	}
	panic(api.ErrSyntax)
}
