package flat

import (
	"strconv"
	"strings"

	"sheetmetal/api"
)

// FormatTable returns the text of a bend table.
func FormatTable(t api.BendTable) (string, api.Errno) {
	if e := Validate(t); e != api.OK {
		return "", e
	}
	var b strings.Builder
	writeLine(&b, "table", t.Material, strconv.Itoa(t.Gauge), strconv.Itoa(t.Die))
	for _, x := range t.Entries {
		writeLine(&b, "angle", strconv.Itoa(x.Angle), strconv.Itoa(x.Num)+"/"+strconv.Itoa(x.Den))
	}
	return b.String(), api.OK
}

// ParseTable returns the valid bend table whose FormatTable is text.
func ParseTable(text string) (api.BendTable, api.Errno) {
	if len(text) > api.MaxText {
		return api.BendTable{}, api.ErrLarge
	}
	t := readTable(text)
	// What is read is the only table that text may stand for. Whether it does (the table may be invalid, a word not be the right one) is left to FormatTable.
	if again, e := FormatTable(t); e != api.OK || again != text {
		return api.BendTable{}, api.ErrSyntax
	}
	return t, api.OK
}

// readTable returns a table, valid or not: if text is the text of a valid one, it is this one.
func readTable(text string) api.BendTable {
	first, rest, _ := strings.Cut(text, "\n")
	words := wordsOf(first, 4)
	t := api.BendTable{Material: words[1], Gauge: number(words[2]), Die: number(words[3])}
	for rest != "" {
		first, rest, _ = strings.Cut(rest, "\n")
		t.Entries = append(t.Entries, readEntry(first))
	}
	return t
}

func readEntry(line string) api.Entry {
	words := wordsOf(line, 3)
	num, den, _ := strings.Cut(words[2], "/")
	return api.Entry{Angle: number(words[1]), Num: number(num), Den: number(den)}
}

// wordsOf returns the first count words of a line, and empty ones for those that it does not have.
func wordsOf(line string, count int) []string {
	return append(strings.SplitN(line, " ", count), make([]string, count)...)[:count]
}

// number returns the number that a word writes; 0 if it writes none.
func number(word string) int {
	n, err := strconv.Atoi(word)
	if err != nil {
		return 0
	}
	return n
}

func writeLine(b *strings.Builder, words ...string) {
	b.WriteString(strings.Join(words, " "))
	b.WriteByte('\n')
}
