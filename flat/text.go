package flat

import (
	"strconv"
	"strings"

	"sheetmetal/api"
	"sheetmetal/texts"
)

// FormatTable returns the text of a bend table.
func FormatTable(t api.BendTable) (string, api.Errno) {
	if e := Validate(t); e != api.OK {
		return "", e
	}
	var b strings.Builder
	texts.WriteLine(&b, "table", t.Material, strconv.Itoa(t.Gauge), strconv.Itoa(t.Die))
	for _, x := range t.Entries {
		texts.WriteLine(&b, "angle", strconv.Itoa(x.Angle), strconv.Itoa(x.Num)+"/"+strconv.Itoa(x.Den))
	}
	return b.String(), api.OK
}

// ParseTable returns the valid bend table whose FormatTable is text.
func ParseTable(text string) (api.BendTable, api.Errno) {
	if len(text) > api.MaxText {
		return api.BendTable{}, api.ErrLarge
	}
	t := readTable(text)
	// What is read is the only table that text may stand for. Whether it does (the table may be invalid, a word not be the right one) is left to FormatTable.
	if again, e := FormatTable(t); e != api.OK || again != text {
		return api.BendTable{}, api.ErrSyntax
	}
	return t, api.OK
}

// readTable returns a table, valid or not: if text is the text of a valid one, it is this one.
func readTable(text string) api.BendTable {
	first, rest, _ := strings.Cut(text, "\n")
	words := texts.Words(first, 4)
	t := api.BendTable{Material: words[1], Gauge: texts.Number(words[2]), Die: texts.Number(words[3])}
	for rest != "" {
		first, rest, _ = strings.Cut(rest, "\n")
		t.Entries = append(t.Entries, readEntry(first))
	}
	return t
}

func readEntry(line string) api.Entry {
	words := texts.Words(line, 3)
	num, den, _ := strings.Cut(words[2], "/")
	return api.Entry{Angle: texts.Number(words[1]), Num: texts.Number(num), Den: texts.Number(den)}
}
