// Package texts has what the texts of all layers share: lines of words, where one blank separates two words, and numbers in decimal digits.
//
// Its readers refuse nothing: a layer reads what a text may stand for, and accepts the text only if it is what the layer writes for that.
package texts

import (
	"strconv"
	"strings"
)

// WriteLine writes a line of words.
func WriteLine(b *strings.Builder, words ...string) {
	b.WriteString(strings.Join(words, " "))
	b.WriteByte('\n')
}

// Words returns the first count words of a line: the last one is the whole rest of the line, and those that the line does not have are empty.
func Words(line string, count int) []string {
	return append(strings.SplitN(line, " ", count), make([]string, count)...)[:count]
}

// Number returns the number that a word writes; 0 if it writes none.
func Number(word string) int {
	n, err := strconv.Atoi(word)
	if err != nil {
		return 0
	}
	return n
}
