package ops

import (
	"iter"
	"strings"

	"vesper/api"
	"vesper/bits"
)

// What lines have that are no orders, or name a label.
const (
	dataWord   = "data"
	labelSign  = ":"
	labelWord  = "to"
	byteDigits = 2
)

// anyAddress is an NNN that each order with an NNN may have: it stands in till the label's address is known.
const anyAddress = "200"

// use is an order that names a label: its line's number, where its bytes lie, and the label.
type use struct {
	line  int
	place int
	order api.Order
	label string
}

// program is what the lines so far have told.
type program struct {
	bytes  []byte
	labels map[string]uint16 // the addresses, by the names
	uses   []use
}

// Program makes a program of lines; with an error the line.
func Program(text string) ([]byte, api.Errno, int) {
	if len(text) > api.MaxText {
		return nil, api.ErrLong, 0
	}
	p := &program{labels: map[string]uint16{}}
	for n, words := range lines(text) {
		if !p.take(n, words) {
			return nil, api.ErrOpsText, n
		}
		if len(p.bytes) > api.ProgramSize {
			return nil, api.ErrLong, n
		}
	}
	if n, found := p.settle(); !found {
		return nil, api.ErrOpsNone, n
	}
	return p.bytes, api.OK, 0
}

// lines goes through the lines that have words: the number of each, from 1 on, and its words.
func lines(text string) iter.Seq2[int, []string] {
	return func(yield func(int, []string) bool) {
		rest := text
		for n := 1; rest != ""; n++ {
			own, others, _ := strings.Cut(rest, "\n")
			if words := wordsOf(own); len(words) > 0 && !yield(n, words) {
				return
			}
			rest = others
		}
	}
}

// wordsOf is the words ahead of a line's remark.
func wordsOf(line string) []string {
	told, _, _ := strings.Cut(line, ";")
	return strings.FieldsFunc(told, isBlank)
}

// isBlank: other white space is no blank, but part of a word.
func isBlank(r rune) bool { return r == ' ' }

// take takes up a line; false, if it is none.
func (p *program) take(line int, words []string) bool {
	if words[0] == dataWord {
		return p.takeData(words[1:])
	}
	if name, is := strings.CutSuffix(words[0], labelSign); is {
		return len(words) == 1 && p.takeLabel(name)
	}
	if len(words) == 3 && words[1] == labelWord {
		return p.takeUse(line, words[0], words[2])
	}
	o, ok := read(words)
	if ok {
		p.add(o)
	}
	return ok
}

func (p *program) takeData(words []string) bool {
	for _, word := range words {
		n, ok := number(word, byteDigits)
		if !ok {
			return false
		}
		p.bytes = append(p.bytes, byte(n))
	}
	return len(words) > 0
}

func (p *program) takeLabel(name string) bool {
	if _, known := p.labels[name]; known || !isName(name) {
		return false
	}
	p.labels[name] = uint16(api.ProgramAt + len(p.bytes))
	return true
}

// takeUse takes up an order, told by its first word, with a label in the place of its NNN.
func (p *program) takeUse(line int, first, label string) bool {
	o, ok := read([]string{first, anyAddress})
	if !ok || !isName(label) {
		return false
	}
	p.uses = append(p.uses, use{line: line, place: len(p.bytes), order: o, label: label})
	p.add(o)
	return true
}

// add lays an order's word behind the bytes so far.
func (p *program) add(o api.Order) {
	w, _ := Encode(o)
	p.bytes = append(p.bytes, bits.High(w), bits.Low(w))
}

// settle lays the labels' addresses into the orders that name them; false, if one is nowhere, and the line that names it.
func (p *program) settle() (int, bool) {
	for _, u := range p.uses {
		at, known := p.labels[u.label]
		if !known {
			return u.line, false
		}
		u.order.At = at
		w, _ := Encode(u.order)
		p.bytes[u.place], p.bytes[u.place+1] = bits.High(w), bits.Low(w)
	}
	return 0, true
}

// isName tells whether a text is a label's name.
func isName(s string) bool {
	if len(s) < 1 || len(s) > api.MaxName || !isLetter(s[0]) {
		return false
	}
	for n := range len(s) {
		if !isLetter(s[n]) && !isDigit(s[n]) && s[n] != '-' {
			return false
		}
	}
	return true
}

func isLetter(b byte) bool { return 'a' <= b && b <= 'z' }

func isDigit(b byte) bool { return '0' <= b && b <= '9' }
