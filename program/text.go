package program

import (
	"strconv"
	"strings"

	"sheetmetal/api"
	"sheetmetal/texts"
)

// maxText is the greatest length of the text of a program, in bytes.
const maxText = 40 * api.MaxOps

// notation is how programs are written in a dialect.
type notation struct {
	dialect int
	words   []meaning
	origin  func(at api.Spot) api.Spot // the spot from which X and Y are counted in the line of an operation, when at is the position before it
}

// meaning is the first word of a line and the kind of operations for which it stands.
type meaning struct {
	word string
	kind int
}

// notations returns the notations of all dialects.
func notations() []notation {
	return []notation{
		{api.Absolute, []meaning{{"move", api.OpMove}, {"line", api.OpLine}, {"break", api.OpBreak}, {"stamp", api.OpStamp}}, fromZero},
		{api.Incremental, []meaning{{"m", api.OpMove}, {"l", api.OpLine}, {"b", api.OpBreak}, {"s", api.OpStamp}}, fromPosition},
		{api.Press, []meaning{{"mount", api.OpMount}, {"bend", api.OpBend}}, fromZero},
	}
}

func fromZero(api.Spot) api.Spot {
	return api.Spot{}
}

func fromPosition(at api.Spot) api.Spot {
	return at
}

// FormatOps returns the text of a program in a dialect.
func FormatOps(dialect int, ops []api.Op) (string, api.Errno) {
	n, found := notationOf(dialect)
	if !found {
		return "", api.ErrArg
	}
	t := tape{notation: n}
	if e := execute(ops, t.write); e != api.OK {
		return "", e
	}
	return t.text.String(), api.OK
}

// ParseOps returns the operations whose FormatOps is text.
func ParseOps(dialect int, text string) ([]api.Op, api.Errno) {
	n, found := notationOf(dialect)
	if !found {
		return nil, api.ErrArg
	}
	if len(text) > maxText {
		return nil, api.ErrLarge
	}
	t := tape{notation: n}
	var ops []api.Op
	for line := range strings.Lines(text) {
		ops = append(ops, t.read(strings.TrimSuffix(line, "\n")))
	}
	// What is read are the only operations that text may stand for. Whether it does (a word may be no word of the dialect, a number be written in another way) is left to FormatOps.
	if again, e := FormatOps(dialect, ops); e != api.OK || again != text {
		return nil, api.ErrSyntax
	}
	return ops, api.OK
}

// notationOf returns the notation of a dialect, or false if there is no such dialect.
func notationOf(dialect int) (notation, bool) {
	for _, n := range notations() {
		if n.dialect == dialect {
			return n, true
		}
	}
	return notation{}, false
}

// wordOf returns the word for a kind, or false if the dialect has no line for it.
func (n notation) wordOf(kind int) (string, bool) {
	for _, m := range n.words {
		if m.kind == kind {
			return m.word, true
		}
	}
	return "", false
}

// kindOf returns the kind for which a word stands; 0 if it is no word of the dialect.
func (n notation) kindOf(word string) int {
	for _, m := range n.words {
		if m.word == word {
			return m.kind
		}
	}
	return 0
}

// tape is the text of a program of which one line after another is written or read.
type tape struct {
	notation
	at   api.Spot // the position after these lines
	text strings.Builder
}

// write writes the line of an operation, or returns why it is refused.
func (t *tape) write(o api.Op) error {
	word, found := t.wordOf(o.Kind)
	if !found || !isClean(o) {
		return refusal("the dialect has no line for such an operation")
	}
	if !isSmall(o) {
		return refusal("a number is too large")
	}
	origin := t.origin(t.at)
	t.pass(o)
	o.X, o.Y = o.X-origin.X, o.Y-origin.Y
	words := []string{word}
	for _, n := range fields(&o) {
		words = append(words, strconv.Itoa(*n))
	}
	texts.WriteLine(&t.text, words...)
	return nil
}

// read returns the operation, allowed or not, of a line: if it is the line of an operation, it is this one.
func (t *tape) read(line string) api.Op {
	word, rest, _ := strings.Cut(line, " ")
	o := api.Op{Kind: t.kindOf(word)}
	l := fields(&o)
	for i, number := range texts.Words(rest, len(l)) {
		*l[i] = texts.Number(number)
	}
	origin := t.origin(t.at)
	o.X, o.Y = o.X+origin.X, o.Y+origin.Y
	t.pass(o)
	return o
}

// pass moves the position to that of an operation. A stamp has none.
func (t *tape) pass(o api.Op) {
	if o.Kind != api.OpStamp {
		t.at = api.Spot{X: o.X, Y: o.Y}
	}
}

// isSmall reports whether all fields but the kind are from -MaxTicks to MaxTicks.
func isSmall(o api.Op) bool {
	for _, n := range []int{o.X, o.Y, o.W, o.H, o.N} {
		if !within(n, -api.MaxTicks, api.MaxTicks) {
			return false
		}
	}
	return true
}
