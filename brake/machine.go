package brake

import (
	"slices"

	"sheetmetal/api"
	"sheetmetal/copies"
	"sheetmetal/geom"
	"sheetmetal/part"
)

const (
	maxGaugeSpot = 100 // absolute value of a coordinate of the back gauge
	maxGaugeMax  = 900 // how far behind the bend line the back gauge may stand
)

// Validate returns the error of a machine.
func Validate(m api.Machine) api.Errno {
	if !part.ValidName(m.Name) || !validTools(m) || !everywhere().validPolygons(m.Frame) || !validGauge(m) ||
		!within(m.Stations, 1, api.MaxStations) {
		return api.ErrTool
	}
	return api.OK
}

// WithoutPunch returns the machine without the punch of this name.
func WithoutPunch(m api.Machine, name string) (api.Machine, api.Errno) {
	if e := Validate(m); e != api.OK {
		return api.Machine{}, e
	}
	i := slices.IndexFunc(m.Punches, func(x api.Punch) bool { return x.Name == name })
	switch {
	case i < 0:
		return api.Machine{}, api.ErrNone
	case len(m.Punches) == 1:
		return api.Machine{}, api.ErrTool
	}
	m = copies.Machine(m)
	m.Punches = slices.Delete(m.Punches, i, i+1)
	return m, api.OK
}

func validTools(m api.Machine) bool {
	if !within(len(m.Punches), 1, api.MaxTools) || !within(len(m.Dies), 1, api.MaxTools) {
		return false
	}
	above, below := everywhere(), everywhere()
	above.bottom, below.top = 0, 0
	var names []string
	for _, x := range m.Punches {
		if !validSize(x.Length) || !above.validTool(x.Polygons) {
			return false
		}
		names = append(names, x.Name)
	}
	for _, x := range m.Dies {
		if !validSize(x.Length) || !validSize(x.Width) || !below.validTool(x.Polygons) {
			return false
		}
		names = append(names, x.Name)
	}
	return validNames(names)
}

// validNames reports whether the names are valid and differ from each other.
func validNames(l []string) bool {
	for i, name := range l {
		if !part.ValidName(name) || slices.Contains(l[:i], name) {
			return false
		}
	}
	return true
}

func validGauge(m api.Machine) bool {
	behind := space{left: -maxGaugeSpot, right: 0, bottom: -maxGaugeSpot, top: maxGaugeSpot}
	return behind.validPolygon(m.Gauge) && within(m.GaugeMin, 0, m.GaugeMax) && m.GaugeMax <= maxGaugeMax
}

func validSize(n int) bool {
	return within(n, 1, api.MaxCoord)
}

// space is the rectangle, with its border, in which the spots of a polygon may lie.
type space struct {
	left, right, bottom, top int
}

// everywhere returns the space of all coordinates.
func everywhere() space {
	return space{left: -api.MaxCoord, right: api.MaxCoord, bottom: -api.MaxCoord, top: api.MaxCoord}
}

// validTool reports whether l are the polygons of a valid tool.
func (a space) validTool(l [][]api.Spot) bool {
	return len(l) > 0 && a.validPolygons(l)
}

// validPolygons reports whether l, which may be empty, has no more polygons than a tool or the frame may have, and each of them is valid.
func (a space) validPolygons(l [][]api.Spot) bool {
	if len(l) > api.MaxPolygons {
		return false
	}
	for _, polygon := range l {
		if !a.validPolygon(polygon) {
			return false
		}
	}
	return true
}

func (a space) validPolygon(l []api.Spot) bool {
	if !within(len(l), 3, api.MaxSpots) {
		return false
	}
	for _, s := range l {
		if !within(s.X, a.left, a.right) || !within(s.Y, a.bottom, a.top) {
			return false
		}
	}
	corners, e := geom.Hull(points(l))
	return e == api.OK && len(corners) >= 3
}

// points returns the points of spots.
func points(l []api.Spot) []api.Point {
	result := make([]api.Point, 0, len(l))
	for _, s := range l {
		p, _ := geom.Turn(s, 0) // the spots of a valid machine are within its limits
		result = append(result, p)
	}
	return result
}
