package brake

import (
	"iter"
	"slices"

	"sheetmetal/api"
	"sheetmetal/geom"
	"sheetmetal/part"
)

// degrees is the angle from one station of a turn to the next.
const degrees = 30

// job is a part that is bent on a machine over dies of an opening.
type job struct {
	p       api.Part
	m       api.Machine
	opening int
}

// bend is the bend of a flange with a held side, before it is made.
type bend struct {
	job
	flange   int
	shapes   []Shape
	passed   [][][]api.Point // for each shape, the polygons that it passes while it is turned
	distance int
}

// Examine returns the first reason for which a step is not feasible with a mask, or Feasible.
func Examine(p api.Part, m api.Machine, opening, mask int, s api.Step) (int, api.Errno) {
	j := job{p: p, m: m, opening: opening}
	if e := j.check(mask); e != api.OK {
		return 0, e
	}
	if !j.denotes(s) || has(mask, s.Flange) {
		return 0, api.ErrArg
	}
	b := j.bend(mask, s.Flange, s.Held)
	return b.examine(s.Align, m.Punches[s.Punch], m.Dies[s.Die]), api.OK
}

// check returns the error of a job, or of a mask for it.
func (j job) check(mask int) api.Errno {
	if e := part.Validate(j.p); e != api.OK {
		return e
	}
	if e := Validate(j.m); e != api.OK {
		return e
	}
	if !isMask(j.p, mask) {
		return api.ErrArg
	}
	return api.OK
}

// denotes reports whether each number of a step denotes something.
func (j job) denotes(s api.Step) bool {
	return hasFlange(j.p, s.Flange) && isChoice(s.Held) && isChoice(s.Align) &&
		within(s.Punch, 0, len(j.m.Punches)-1) && within(s.Die, 0, len(j.m.Dies)-1)
}

// bend returns the bend of a flange that a mask does not have.
func (j job) bend(mask, flange, held int) bend {
	b := bend{job: j, flange: flange, shapes: project(j.p, mask, flange, held)}
	b.distance = distance(j.p, b.shapes, flange, held)
	angle := j.p.Flanges[flange].Angle
	for _, s := range b.shapes {
		last := 0
		if s.Moving {
			last = max(angle, -angle) / degrees
		}
		// A part reaches over at most six faces, so its corners are within the limit of Sweep.
		polygons, _ := geom.Sweep(s.Spots, 0, last)
		b.passed = append(b.passed, polygons)
	}
	return b
}

// feasible goes through the feasible steps of a flange that a mask does not have, in ascending order.
func (j job) feasible(mask, flange int) iter.Seq[api.Step] {
	return func(yield func(api.Step) bool) {
		for held := range 2 {
			// Here the tools come last: without them much is decided at once for all of them.
			b := j.bend(mask, flange, held)
			if !b.isReached() || b.hitsFrame() || b.hitsGauge() {
				continue
			}
			for s := range b.choices() {
				s.Flange, s.Held = flange, held
				if !yield(s) {
					return
				}
			}
		}
	}
}

// choices goes through the alignments and tools that collide with nothing, in ascending order.
func (b bend) choices() iter.Seq[api.Step] {
	return func(yield func(api.Step) bool) {
		for align := range 2 {
			for i, punch := range b.m.Punches {
				if !b.fitsPunch(punch) || b.hitsPunch(align, punch) {
					continue
				}
				for k, die := range b.m.Dies {
					if !b.fitsDie(die) || b.hitsDie(align, die) {
						continue
					}
					if !yield(api.Step{Align: align, Punch: i, Die: k}) {
						return
					}
				}
			}
		}
	}
}

// examine is Examine for the bend.
func (b bend) examine(align int, punch api.Punch, die api.Die) int {
	switch {
	case !b.fitsPunch(punch) || !b.fitsDie(die):
		return NoTool
	case !b.isReached():
		return NoReach
	case b.hitsPunch(align, punch):
		return HitPunch
	case b.hitsDie(align, die):
		return HitDie
	case b.hitsFrame():
		return HitFrame
	case b.hitsGauge():
		return HitGauge
	}
	return Feasible
}

// width returns the length of the bend line.
func (b bend) width() int {
	return b.p.Flanges[b.flange].Width
}

func (b bend) fitsPunch(x api.Punch) bool {
	return x.Length >= b.width()
}

func (b bend) fitsDie(x api.Die) bool {
	return x.Length >= b.width() && x.Width == b.opening
}

// isReached reports whether the back gauge can stand behind the held face.
func (b bend) isReached() bool {
	return within(b.distance, b.m.GaugeMin, b.m.GaugeMax)
}

func (b bend) hitsPunch(align int, x api.Punch) bool {
	return meet(b.passedAt(align, x.Length), x.Polygons)
}

func (b bend) hitsDie(align int, x api.Die) bool {
	return meet(b.passedAt(align, x.Length), x.Polygons)
}

func (b bend) hitsFrame() bool {
	return meet(b.passedAnywhere(), b.m.Frame)
}

func (b bend) hitsGauge() bool {
	var moved []api.Spot
	for _, s := range b.m.Gauge {
		moved = append(moved, api.Spot{X: s.X - b.distance, Y: s.Y})
	}
	return meet(b.passedAnywhere(), [][]api.Spot{moved})
}

// passedAt returns the polygons that are passed by the faces at a tool of a length.
func (b bend) passedAt(align, length int) [][]api.Point {
	from, to := 0, length
	if align == 1 {
		from, to = b.width()-length, b.width()
	}
	var l [][]api.Point
	for i, s := range b.shapes {
		if s.Lo < to && s.Hi > from {
			l = append(l, b.passed[i]...)
		}
	}
	return l
}

// passedAnywhere returns the polygons that are passed by all faces.
func (b bend) passedAnywhere() [][]api.Point {
	return slices.Concat(b.passed...)
}

// meet reports whether one of the passed polygons has a point in the interior of an obstacle.
func meet(passed [][]api.Point, obstacles [][]api.Spot) bool {
	for _, obstacle := range obstacles {
		inner := points(obstacle)
		for _, polygon := range passed {
			if meets, _ := geom.Meets(polygon, inner); meets {
				return true
			}
		}
	}
	return false
}
