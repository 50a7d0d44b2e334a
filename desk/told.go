package desk

import (
	"strings"

	"vesper/bits"
)

// sentence is words as a line that is told.
func sentence(words ...string) string { return strings.Join(words, " ") + "\n" }

// indented is a text with two blanks ahead of each of its lines.
func indented(text string) string {
	var b strings.Builder
	for l := range strings.Lines(text) {
		b.WriteString("  " + l)
	}
	return b.String()
}

func flag(is bool) string {
	if is {
		return "1"
	}
	return "0"
}

func twoDigits(b byte) string { return bits.Hex(int(b), 2) }

func fourDigits(w uint16) string { return bits.Hex(int(w), 4) }

// digits are bytes by two digits each, one behind the other.
func digits(l []byte) string {
	var b strings.Builder
	for _, x := range l {
		b.WriteString(twoDigits(x))
	}
	return b.String()
}
