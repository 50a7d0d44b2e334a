package trace

import (
	"strings"

	"vesper/api"
	"vesper/bits"
)

// row is a word of a record's line, at its place in the line.
type row struct {
	always bool                           // every line has it
	say    func(api.Record) string        // the word; empty, if this record has none here
	take   func(*api.Record, string) bool // lays what the word says into the record; false, if the word is none of this row
}

// modeWords: each mode's word at its own number; Run has none.
var modeWords = [4]string{"", "pause", "reset", "load"}

// rows are the words of a line, in their order.
func rows() []row {
	return []row{
		{
			always: true,
			say:    func(r api.Record) string { return "s" + bits.Hex(int(r.Code), 1) },
			take: func(r *api.Record, word string) (ok bool) {
				r.Code, ok = digit(word, 's', 0, api.S3)
				return ok
			},
		},
		{
			always: true,
			say:    func(r api.Record) string { return bits.Hex(int(r.Address), 4) },
			take: func(r *api.Record, word string) bool {
				n, ok := number(word, 4)
				r.Address = uint16(n)
				return ok
			},
		},
		{
			always: true,
			say:    func(r api.Record) string { return bits.Hex(int(r.Data), 2) },
			take: func(r *api.Record, word string) bool {
				n, ok := number(word, 2)
				r.Data = byte(n)
				return ok
			},
		},
		signRow("r", func(r *api.Record) *bool { return &r.Read }),
		signRow("w", func(r *api.Record) *bool { return &r.Write }),
		{say: sayPort, take: takePort},
		signRow("q", func(r *api.Record) *bool { return &r.Q }),
		{say: func(r api.Record) string { return modeWords[r.Mode] }, take: takeMode},
	}
}

// signRow is the row of a word that stands just where a field is true.
func signRow(sign string, field func(*api.Record) *bool) row {
	return row{
		say: func(r api.Record) string {
			if *field(&r) {
				return sign
			}
			return ""
		},
		take: func(r *api.Record, word string) bool {
			*field(r) = word == sign
			return word == sign
		},
	}
}

func sayPort(r api.Record) string {
	if r.Port == 0 {
		return ""
	}
	return "n" + bits.Hex(int(r.Port), 1)
}

func takePort(r *api.Record, word string) (ok bool) {
	r.Port, ok = digit(word, 'n', 1, mostPort)
	return ok
}

func takeMode(r *api.Record, word string) bool {
	for m, w := range modeWords {
		// The word that Run has not would fit to what stands between two blanks.
		if w != "" && w == word {
			r.Mode = api.Mode(m)
			return true
		}
	}
	return false
}

// digit is what a sign and a digit behind it say; 0 and false, if the word is something else.
func digit(word string, sign, least, most byte) (byte, bool) {
	if len(word) != 2 || word[0] != sign {
		return 0, false
	}
	d := word[1] - '0'
	if d < least || d > most {
		return 0, false
	}
	return d, true
}

// number is what just so many digits to the base sixteen say.
func number(word string, digits int) (int, bool) {
	n, e := bits.Number(word)
	return n, e == api.OK && len(word) == digits
}

func lineOf(words []row, r api.Record) string {
	var line []string
	for _, w := range words {
		if word := w.say(r); word != "" {
			line = append(line, word)
		}
	}
	return strings.Join(line, " ") + "\n"
}

// readLine is the record of a line without its line feed. Each word is looked for at its own place alone: what stands in another order, twice or unknown is left over.
func readLine(words []row, line string) api.Record {
	var r api.Record
	left := strings.Split(line, " ")
	for _, w := range words {
		if len(left) > 0 && w.take(&r, left[0]) {
			left = left[1:]
			continue
		}
		need(!w.always)
	}
	need(len(left) == 0)
	need(mayBe(r))
	return r
}
