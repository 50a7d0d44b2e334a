package desk

import (
	"strconv"
	"strings"

	"vesper/api"
	"vesper/bits"
	"vesper/script"
	"vesper/source"
)

const (
	mostDigits    = 7 // of a decimal number
	addressDigits = 4
	byteDigits    = 2
	mostBytes     = 256 // that a line writes, or tells
	keys          = 16
)

// args are what stands behind a line's first word.
type args struct {
	numbers []int // the decimal ones, in their order
	address int
	bytes   []byte
	name    string
	span    api.Span
}

// reader goes along a line.
type reader struct {
	left string // what is left of it, from the blank ahead of the next word on
	args
}

// form reads one of the things that stand behind a line's first word; false, if it is not there.
type form = func(*reader) bool

// forms are the things that stand behind the lines' first words, by these.
func forms() map[string][]form {
	return map[string][]form{
		"source":  nil,
		"list":    nil,
		"machine": {(*reader).readNumber},
		"bare":    {(*reader).readNumber},
		"game":    nil,
		"play":    {(*reader).readSpan},
		"press":   {(*reader).readKey, (*reader).readNumber, (*reader).readNumber},
		"cpu":     nil,
		"raster":  nil,
		"memory":  {(*reader).readAddress, (*reader).readSize},
		"poke":    {(*reader).readAddress, (*reader).readBytes},
		"trace":   {(*reader).readNumber},
		"frames":  nil,
		"screen":  nil,
		"beeps":   nil,
		"beat":    nil,
		"save":    {(*reader).readName},
		"load":    {(*reader).readName},
		"same":    {(*reader).readName},
	}
}

// firstWord is a text up to its first blank.
func firstWord(text string) string {
	word, _, _ := strings.Cut(text, " ")
	return word
}

// word takes the next word off the line; it is empty, if none follows the blank, or there is no blank.
func (r *reader) word() string {
	rest, is := strings.CutPrefix(r.left, " ")
	if !is {
		return ""
	}
	word := firstWord(rest)
	r.left = rest[len(word):]
	return word
}

func (r *reader) readNumber() bool {
	n, is := number(r.word())
	r.numbers = append(r.numbers, n)
	return is
}

// number is a decimal number without a nought ahead.
func number(word string) (int, bool) {
	if len(word) > mostDigits {
		return 0, false
	}
	n, err := strconv.Atoi(word)
	// A sign, or a nought ahead, would not be written back.
	return n, err == nil && n >= 0 && strconv.Itoa(n) == word
}

func (r *reader) readKey() bool {
	return r.readNumber() && r.numbers[0] < keys
}

func (r *reader) readSize() bool {
	return r.readNumber() && r.numbers[0] >= 1 && r.numbers[0] <= mostBytes
}

func (r *reader) readAddress() bool {
	word := r.word()
	n, e := bits.Number(word)
	r.address = n
	return len(word) == addressDigits && e == api.OK
}

func (r *reader) readBytes() bool {
	word := r.word()
	if len(word) < byteDigits || len(word) > byteDigits*mostBytes || len(word)%byteDigits != 0 {
		return false
	}
	for at := 0; at < len(word); at += byteDigits {
		n, e := bits.Number(word[at : at+byteDigits])
		if e != api.OK {
			return false
		}
		r.bytes = append(r.bytes, byte(n))
	}
	return true
}

// readName takes a name, if a label may be called so.
func (r *reader) readName() bool {
	r.name = r.word()
	e, _ := source.Check([]api.Item{{Kind: api.ItemLabel, Name: r.name}})
	return e == api.OK
}

// readSpan takes all that is left: a span has words of its own.
func (r *reader) readSpan() bool {
	l, e, _ := script.Parse(strings.TrimPrefix(r.left, " ") + "\n")
	if e != api.OK {
		return false
	}
	// A text that is taken, and has one line, is one span.
	r.span, r.left = l[0], ""
	return true
}
