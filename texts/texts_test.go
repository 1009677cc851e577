package texts_test

import (
	"math"
	"slices"
	"strconv"
	"strings"
	"testing"

	"sheetmetal/texts"
)

func TestWriteLine(t *testing.T) {
	var b strings.Builder
	texts.WriteLine(&b, "poly", "0 0", "-5")
	texts.WriteLine(&b, "a")
	texts.WriteLine(&b)
	texts.WriteLine(&b, "", "")
	if b.String() != "poly 0 0 -5\na\n\n \n" {
		t.Errorf("%q", b.String())
	}
}

func TestWords(t *testing.T) {
	for _, x := range []struct {
		line  string
		count int
		want  []string
	}{
		{"", 1, []string{""}},
		{"", 3, []string{"", "", ""}},
		{"a", 2, []string{"a", ""}},
		{"a b c", 3, []string{"a", "b", "c"}},
		{"a b c d", 3, []string{"a", "b", "c d"}},
		{"a  b", 3, []string{"a", "", "b"}},
		{" a ", 2, []string{"", "a "}},
	} {
		if l := texts.Words(x.line, x.count); !slices.Equal(l, x.want) {
			t.Errorf("%q, %d: %q", x.line, x.count, l)
		}
	}
}

func TestNumber(t *testing.T) {
	for _, n := range []int{0, 1, -1, 10, math.MaxInt, math.MinInt} {
		if texts.Number(strconv.Itoa(n)) != n {
			t.Error(n)
		}
	}
	for _, word := range []string{"", "-", "x", "1x", " 1", "1 ", "1.0", "1_0", "0x1", "9223372036854775808", "-9223372036854775809"} {
		if n := texts.Number(word); n != 0 {
			t.Errorf("%q: %d", word, n)
		}
	}
}
