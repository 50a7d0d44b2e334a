package desk

import (
	"slices"
	"strings"

	"vesper/api"
)

// mostLines is how many lines a text may have.
const mostLines = 1000

// endWord is the line that ends the lines within another one.
const endWord = "end"

// line is a line of a text that may be, read.
type line struct {
	number int    // from 1 on
	text   string // all of it
	word   string // its first word
	args
	within string // the lines between it and its end, each with its line feed
}

// read reads a text, before anything of it is done.
func read(text string) ([]line, error) {
	if len(text) > api.MaxText {
		return nil, fault{errno: api.ErrLong}
	}
	whole, all := wholeLines(text)
	forms := forms()
	var lines []line
	for next := 0; next < len(whole); next++ {
		if passedOver(whole[next]) {
			continue
		}
		l, is := readLine(whole[next], forms)
		l.number = next + 1
		if !is {
			return nil, noLine(l.number)
		}
		if holdsLines(l.word) {
			size := slices.Index(whole[next+1:], endWord)
			if size < 0 {
				return nil, noLine(len(whole) + 1)
			}
			l.within = joined(whole[next+1 : next+1+size])
			next += size + 1
		}
		lines = append(lines, l)
	}
	if !all {
		return nil, noLine(len(whole) + 1)
	}
	return lines, nil
}

// wholeLines are the lines of a text that have a line feed, as many as there may be; and whether that is all of it.
func wholeLines(text string) ([]string, bool) {
	var whole []string
	for len(whole) < mostLines {
		l, rest, is := strings.Cut(text, "\n")
		if !is {
			break
		}
		whole, text = append(whole, l), rest
	}
	return whole, text == ""
}

// noLine is the error of a line that may not be.
func noLine(number int) error { return undone{number, fault{errno: api.ErrDeskLine}} }

func passedOver(text string) bool { return text == "" || text[0] == '#' }

// holdsLines tells whether lines stand between one with that first word and its end.
func holdsLines(word string) bool { return word == "source" || word == "game" }

// joined are lines as one text.
func joined(lines []string) string {
	var b strings.Builder
	for _, l := range lines {
		b.WriteString(l + "\n")
	}
	return b.String()
}

// readLine reads one line; false, if it may not be.
func readLine(text string, forms map[string][]form) (line, bool) {
	word := firstWord(text)
	parts, known := forms[word]
	r := reader{left: text[len(word):]}
	for _, part := range parts {
		if !part(&r) {
			return line{}, false
		}
	}
	return line{text: text, word: word, args: r.args}, known && r.left == ""
}
