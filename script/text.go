package script

import (
	"iter"
	"strconv"
	"strings"

	"vesper/api"
	"vesper/bits"
)

// part is what may stand in a line behind the cycles: a word, and behind it so many digits, if it has any.
type part struct {
	word   string
	digits int
}

const partCount = 9

// parts stand in this order.
var parts = [partCount]part{
	{"keys", 4},
	{"tape", 0},
	{"flag", 0},
	{"in", 0},
	{"out", 0},
	{"int", 0},
	{"clear", 0},
	{"wait", 0},
	{"bus", 2},
}

// worths is what each part of a span is worth, in the order of parts; 0: it is not there.
type worths [partCount]int

func worthsOf(s api.Span) worths {
	return worths{
		int(s.Keys),
		worth(s.Tape), worth(s.Flag),
		worth(s.DMAIn), worth(s.DMAOut), worth(s.Interrupt),
		worth(s.Clear), worth(s.Wait),
		int(s.Bus),
	}
}

func worth(on bool) int {
	if on {
		return 1
	}
	return 0
}

func spanOf(cycles int, w worths) api.Span {
	return api.Span{
		Cycles: cycles,
		Keys:   uint16(w[0]),
		Tape:   w[1] != 0, Flag: w[2] != 0,
		DMAIn: w[3] != 0, DMAOut: w[4] != 0, Interrupt: w[5] != 0,
		Clear: w[6] != 0, Wait: w[7] != 0,
		Bus: byte(w[8]),
	}
}

// Print is a script as text.
func Print(l []api.Span) (string, api.Errno) {
	if e := Check(l); e != api.OK {
		return "", e
	}
	var text strings.Builder
	for _, s := range l {
		text.WriteString(lineOf(s))
		if text.Len() > api.MaxText {
			return "", api.ErrLong
		}
	}
	return text.String(), api.OK
}

func lineOf(s api.Span) string {
	line := strconv.Itoa(s.Cycles)
	for i, w := range worthsOf(s) {
		if w == 0 {
			continue
		}
		line += " " + parts[i].word
		if digits := parts[i].digits; digits > 0 {
			line += " " + bits.Hex(w, digits)
		}
	}
	return line + "\n"
}

// Parse reads such a text; with an error the line.
func Parse(text string) ([]api.Span, api.Errno, int) {
	if tooLong(text) {
		return nil, api.ErrLong, 0
	}
	var l []api.Span
	cycles := 0
	for n, line := range lines(text) {
		s, ok := read(line)
		if !ok {
			return nil, api.ErrScriptText, n
		}
		cycles += s.Cycles
		if cycles > api.MaxCycles {
			return nil, api.ErrScriptSpan, n
		}
		l = append(l, s)
	}
	return l, api.OK, 0
}

func tooLong(text string) bool {
	if len(text) > api.MaxText {
		return true
	}
	for n := range lines(text) {
		if n > api.MaxSpans {
			return true
		}
	}
	return false
}

// lines goes through the lines of a text: the number of each, from 1 on, and the line with its line feed, which only the last one may lack.
func lines(text string) iter.Seq2[int, string] {
	return func(yield func(int, string) bool) {
		rest := text
		for n := 1; rest != ""; n++ {
			end := strings.IndexByte(rest, '\n') + 1
			if end == 0 {
				end = len(rest)
			}
			if !yield(n, rest[:end]) {
				return
			}
			rest = rest[end:]
		}
	}
}

// read is the span of a line; false, if it is the line of none. Each part is looked for at its own place alone: what stands in another order, twice or unknown is left over.
func read(line string) (api.Span, bool) {
	line, ended := strings.CutSuffix(line, "\n")
	words := strings.Split(line, " ")
	cycles := count(words[0])
	words = words[1:]
	var w worths
reading:
	for i, p := range parts {
		switch {
		case len(words) == 0 || words[0] != p.word:
			continue
		case p.digits == 0:
			w[i] = 1
			words = words[1:]
		default:
			w[i] = number(words[1:], p.digits)
			if w[i] == 0 {
				break reading
			}
			words = words[2:]
		}
	}
	if !ended || cycles == 0 || len(words) > 0 {
		return api.Span{}, false
	}
	return spanOf(cycles, w), true
}

// count is the cycles that a word tells; 0, if it is none of a span's.
func count(word string) int {
	n, err := strconv.Atoi(word)
	// A sign or noughts ahead are lost on the way there and back.
	if err != nil || n < 1 || n > api.MaxSpan || strconv.Itoa(n) != word {
		return 0
	}
	return n
}

// number is what the next word tells by so many digits; 0, if it has others or none.
func number(words []string, digits int) int {
	if len(words) == 0 || len(words[0]) != digits {
		return 0
	}
	n, _ := bits.Number(words[0])
	return n
}
