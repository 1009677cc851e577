package program

import (
	"sheetmetal/api"
	"sheetmetal/geom"
	"sheetmetal/nest"
)

// Cutting is what a program for cutting does to a sheet: the lines along which it is separated, and the forms.
type Cutting struct {
	Lines  []api.Segment
	Stamps []api.Rect
}

// cutter is the simulator of a cutting machine.
type cutter struct {
	sheet  api.Sheet
	at     api.Spot
	lines  []api.Segment // as they were cut
	stamps []api.Rect
}

// RunCut executes a program on a sheet.
func RunCut(s api.Sheet, ops []api.Op) (Cutting, api.Errno) {
	if e := nest.ValidateSheet(s); e != api.OK {
		return Cutting{}, e
	}
	c := cutter{sheet: s}
	if e := execute(ops, c.do); e != api.OK {
		return Cutting{}, e
	}
	return Cutting{Lines: union(c.lines), Stamps: c.stamps}, api.OK
}

// do does an operation, or returns why it is refused.
func (c *cutter) do(o api.Op) error {
	switch o.Kind {
	case api.OpMove:
		return c.move(o)
	case api.OpLine, api.OpBreak:
		return c.cut(o)
	case api.OpStamp:
		return c.stamp(o)
	}
	return refusal("a cutting machine has no such operation")
}

func (c *cutter) move(o api.Op) error {
	if !isOnSheet(c.sheet, o.X, o.Y) {
		return refusal("the position is not on the sheet")
	}
	c.at = api.Spot{X: o.X, Y: o.Y}
	return nil
}

func (c *cutter) cut(o api.Op) error {
	from := c.at
	if err := c.move(o); err != nil {
		return err
	}
	line := between(from, c.at)
	if !isLine(line) {
		return refusal("the line is neither horizontal nor vertical, or has no length")
	}
	for _, clamp := range c.sheet.Clamps {
		if enters(line, clamp) {
			return refusal("the line enters a clamp")
		}
	}
	c.lines = append(c.lines, line)
	return nil
}

func (c *cutter) stamp(o api.Op) error {
	r := api.Rect{X: o.X, Y: o.Y, W: o.W, H: o.H}
	if !geom.Inside(r, api.Rect{W: c.sheet.Width, H: c.sheet.Height}) {
		return refusal("the form is no rectangle on the sheet")
	}
	c.stamps = append(c.stamps, r)
	return nil
}

// isOnSheet reports whether a spot is on a sheet or its border.
func isOnSheet(s api.Sheet, x, y int) bool {
	return within(x, 0, s.Width) && within(y, 0, s.Height)
}
