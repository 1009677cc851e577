package brake

import (
	"slices"
	"strconv"
	"strings"

	"sheetmetal/api"
	"sheetmetal/texts"
)

// FormatMachine returns the text of a machine.
func FormatMachine(m api.Machine) (string, api.Errno) {
	if e := Validate(m); e != api.OK {
		return "", e
	}
	return write(m), api.OK
}

// ParseMachine returns the valid machine whose FormatMachine is text.
func ParseMachine(text string) (api.Machine, api.Errno) {
	if len(text) > api.MaxText {
		return api.Machine{}, api.ErrLarge
	}
	m := read(text)
	// What is read is the only machine that text may stand for. Whether it does (the machine may be invalid, the lines be in another order) is left to FormatMachine.
	if again, e := FormatMachine(m); e != api.OK || again != text {
		return api.Machine{}, api.ErrSyntax
	}
	return m, api.OK
}

// write returns the text of a valid machine.
func write(m api.Machine) string {
	var b strings.Builder
	texts.WriteLine(&b, "machine", m.Name, strconv.Itoa(m.Stations))
	for _, x := range m.Punches {
		texts.WriteLine(&b, "punch", x.Name, strconv.Itoa(x.Length))
		writePolygons(&b, "poly", x.Polygons)
	}
	for _, x := range m.Dies {
		texts.WriteLine(&b, "die", x.Name, strconv.Itoa(x.Width), strconv.Itoa(x.Length))
		writePolygons(&b, "poly", x.Polygons)
	}
	writePolygons(&b, "frame", m.Frame)
	texts.WriteLine(&b, "gauge", strconv.Itoa(m.GaugeMin), strconv.Itoa(m.GaugeMax), coordinates(m.Gauge))
	return b.String()
}

func writePolygons(b *strings.Builder, word string, l [][]api.Spot) {
	for _, polygon := range l {
		texts.WriteLine(b, word, coordinates(polygon))
	}
}

// coordinates returns the words for the spots of a polygon.
func coordinates(l []api.Spot) string {
	var words []string
	for _, s := range l {
		words = append(words, strconv.Itoa(s.X), strconv.Itoa(s.Y))
	}
	return strings.Join(words, " ")
}

// read returns a machine, valid or not: if text is the text of a valid one, it is this one.
func read(text string) api.Machine {
	var m api.Machine
	for line := range strings.Lines(text) {
		first, rest, _ := strings.Cut(strings.TrimSuffix(line, "\n"), " ")
		switch first {
		case "machine":
			words := texts.Words(rest, 2)
			m.Name, m.Stations = words[0], texts.Number(words[1])
		case "punch":
			words := texts.Words(rest, 2)
			m.Punches = append(m.Punches, api.Punch{Name: words[0], Length: texts.Number(words[1])})
		case "die":
			words := texts.Words(rest, 3)
			m.Dies = append(m.Dies, api.Die{Name: words[0], Width: texts.Number(words[1]), Length: texts.Number(words[2])})
		case "poly":
			addPolygon(&m, spotsOf(rest))
		case "frame":
			m.Frame = append(m.Frame, spotsOf(rest))
		case "gauge":
			words := texts.Words(rest, 3)
			m.GaugeMin, m.GaugeMax, m.Gauge = texts.Number(words[0]), texts.Number(words[1]), spotsOf(words[2])
		}
	}
	return m
}

// addPolygon adds a polygon to the tool that was read last. The dies come after the punches.
func addPolygon(m *api.Machine, polygon []api.Spot) {
	switch punches, dies := len(m.Punches), len(m.Dies); {
	case dies > 0:
		m.Dies[dies-1].Polygons = append(m.Dies[dies-1].Polygons, polygon)
	case punches > 0:
		m.Punches[punches-1].Polygons = append(m.Punches[punches-1].Polygons, polygon)
	}
}

// spotsOf returns the spots that words write, X and Y of each in turn.
func spotsOf(words string) []api.Spot {
	var l []api.Spot
	for pair := range slices.Chunk(strings.Split(words, " "), 2) {
		l = append(l, api.Spot{X: texts.Number(pair[0]), Y: texts.Number(pair[len(pair)-1])})
	}
	return l
}
