package ops

import (
	"bytes"
	"encoding/hex"
	"fmt"
	"regexp"
	"strconv"
	"strings"
	"testing"

	"vesper/api"
)

// draw is a number below n, of a fixed row of numbers.
func draw(d *uint64, n int) int {
	*d = *d*6364136223846793005 + 1442695040888963407
	return int(*d >> 33 % uint64(n))
}

// told is a row of the chapter's table: word, Op, line.
type told struct {
	word string
	op   api.Op
	line string
}

var chapter = []told{
	{"0NNN", api.OpMachine, "machine NNN"}, {"00E0", api.OpClear, "clear"}, {"00EE", api.OpReturn, "return"}, {"1NNN", api.OpJump, "jump NNN"},
	{"2NNN", api.OpCall, "call NNN"}, {"3XNN", api.OpSkipIs, "skip-is vX NN"}, {"4XNN", api.OpSkipNot, "skip-not vX NN"}, {"5XY0", api.OpSkipSame, "skip-same vX vY"},
	{"6XNN", api.OpSet, "set vX NN"}, {"7XNN", api.OpAdd, "add vX NN"}, {"8XY0", api.OpMove, "move vX vY"}, {"8XY1", api.OpOr, "or vX vY"},
	{"8XY2", api.OpAnd, "and vX vY"}, {"8XY4", api.OpPlus, "plus vX vY"}, {"8XY5", api.OpMinus, "minus vX vY"}, {"9XY0", api.OpSkipOther, "skip-other vX vY"},
	{"ANNN", api.OpPoint, "point NNN"}, {"BNNN", api.OpJumpBy, "jump-by NNN"}, {"CXNN", api.OpRandom, "random vX NN"}, {"DXYN", api.OpDraw, "draw vX vY N"},
	{"EX9E", api.OpSkipDown, "skip-down vX"}, {"EXA1", api.OpSkipUp, "skip-up vX"}, {"FX07", api.OpTimer, "timer vX"}, {"FX0A", api.OpKey, "key vX"},
	{"FX15", api.OpDelay, "delay vX"}, {"FX18", api.OpSound, "sound vX"}, {"FX1E", api.OpOn, "on vX"}, {"FX29", api.OpDigit, "digit vX"},
	{"FX33", api.OpThree, "three vX"}, {"FX55", api.OpStore, "store vX"}, {"FX65", api.OpFill, "fill vX"},
}

// known is an order as the chapter tells it.
type known struct {
	word  uint16
	order api.Order
	line  string
}

// The orders of all words, by the chapter's table: by their words, by themselves, by their lines.
var (
	byWord  = map[uint16]known{}
	byOrder = map[api.Order]known{}
	byLine  = map[string]known{}
)

func init() {
	for w := range 65536 {
		if k, is := tellWord(uint16(w)); is {
			byWord[k.word], byOrder[k.order], byLine[k.line] = k, k, k
		}
	}
}

// tellWord holds the digits of a word against each row, sign by sign.
func tellWord(w uint16) (known, bool) {
	digits := fmt.Sprintf("%04x", w)
	var rows []told
	for _, r := range chapter {
		fits := true
		for k, sign := range strings.ToLower(r.word) {
			fits = fits && (strings.ContainsRune("xyn", sign) || digits[k] == byte(sign))
		}
		if fits {
			rows = append(rows, r)
		}
	}
	if len(rows) == 0 {
		return known{}, false
	}
	// Of a word in two rows the machine's is the other one.
	return fill(rows[len(rows)-1], w, digits), true
}

// fill is the order that a row has of a word's digits.
func fill(r told, w uint16, digits string) known {
	k := known{word: w, order: api.Order{Op: r.op}, line: r.line}
	if strings.Contains(r.word, "X") {
		k.order.X = byte(worth(digits[1:2]))
		k.line = strings.Replace(k.line, "X", digits[1:2], 1)
	}
	if strings.Contains(r.word, "Y") {
		k.order.Y = byte(worth(digits[2:3]))
		k.line = strings.Replace(k.line, "Y", digits[2:3], 1)
	}
	switch strings.Count(r.word, "N") {
	case 1:
		k.order.N = byte(worth(digits[3:]))
		k.line = strings.Replace(k.line, "N", digits[3:], 1)
	case 2:
		k.order.Byte = byte(worth(digits[2:]))
		k.line = strings.Replace(k.line, "NN", digits[2:], 1)
	case 3:
		k.order.At = uint16(worth(digits[1:]))
		k.line = strings.Replace(k.line, "NNN", digits[1:], 1)
	}
	return k
}

func worth(digits string) int {
	n, err := strconv.ParseUint(digits, 16, 16)
	if err != nil {
		panic(err)
	}
	return int(n)
}

// bin is the bytes of digits, blanks between them left out.
func bin(digits string) []byte {
	b, err := hex.DecodeString(strings.ReplaceAll(digits, " ", ""))
	if err != nil {
		panic(err)
	}
	return b
}

const nameForm = `([a-z][a-z0-9-]{0,15})`

var (
	blanks   = regexp.MustCompile(` +`)
	isMark   = regexp.MustCompile(`^` + nameForm + `:$`)
	isData   = regexp.MustCompile(`^data((?: [0-9a-f]{2})+)$`)
	isBranch = regexp.MustCompile(`^(machine|jump|call|point|jump-by) to ` + nameForm + `$`)
)

// twinLine is a line that has words, one blank between each two: its label, its bytes, the label that it names.
func twinLine(line string) (mark string, b []byte, names string, ok bool) {
	if m := isMark.FindStringSubmatch(line); m != nil {
		return m[1], nil, "", true
	}
	if m := isData.FindStringSubmatch(line); m != nil {
		return "", bin(m[1]), "", true
	}
	if m := isBranch.FindStringSubmatch(line); m != nil {
		first := map[string]byte{"machine": 0, "jump": 0x10, "call": 0x20, "point": 0xa0, "jump-by": 0xb0}[m[1]]
		return "", []byte{first, 0}, m[2], true
	}
	k, is := byLine[line]
	return "", []byte{byte(k.word >> 8), byte(k.word)}, "", is
}

// twinProgram makes a program by the forms of its lines.
func twinProgram(text string) ([]byte, api.Errno, int) {
	if len(text) > 65536 {
		return nil, api.ErrLong, 0
	}
	var b []byte
	type named struct{ line, at int }
	marks, names := map[string]int{}, []string{}
	wheres := []named{}
	for n, line := range strings.Split(text, "\n") {
		line = strings.Trim(blanks.ReplaceAllString(strings.SplitN(line, ";", 2)[0], " "), " ")
		if line == "" {
			continue
		}
		mark, own, name, ok := twinLine(line)
		if _, twice := marks[mark]; !ok || twice {
			return nil, api.ErrOpsText, n + 1
		}
		if len(b)+len(own) > 3232 {
			return nil, api.ErrLong, n + 1
		}
		if mark != "" {
			marks[mark] = 512 + len(b)
		}
		if name != "" {
			names, wheres = append(names, name), append(wheres, named{n + 1, len(b)})
		}
		b = append(b, own...)
	}
	for k, name := range names {
		at, there := marks[name]
		if !there {
			return nil, api.ErrOpsNone, wheres[k].line
		}
		b[wheres[k].at] |= byte(at / 256)
		b[wheres[k].at+1] = byte(at % 256)
	}
	return b, api.OK, 0
}

// wantProgram: Program of the text is just these bytes; the twin says so, too.
func wantProgram(t *testing.T, text string, want []byte) {
	t.Helper()
	if b, e, at := twinProgram(text); !bytes.Equal(b, want) || e != api.OK || at != 0 {
		t.Errorf("the twin of %.200q (%d bytes): %.100x, %d, %d; want %.100x", text, len(text), b, e, at, want)
	}
	if b, e, at := Program(text); !bytes.Equal(b, want) || e != api.OK || at != 0 {
		t.Errorf("Program of %.200q (%d bytes): %.100x, %d, %d; want %.100x", text, len(text), b, e, at, want)
	}
}

// wantFault: Program of the text answers nothing but that error and that line; the twin, too.
func wantFault(t *testing.T, text string, want api.Errno, line int) {
	t.Helper()
	if _, e, at := twinProgram(text); e != want || at != line {
		t.Errorf("the twin of %.200q (%d bytes): %d, %d; want %d, %d", text, len(text), e, at, want, line)
	}
	if b, e, at := Program(text); len(b) != 0 || e != want || at != line {
		t.Errorf("Program of %.200q (%d bytes): %.100x, %d, %d; want %d, %d", text, len(text), b, e, at, want, line)
	}
}

// wantTwin: Program of the text is what the twin says; true, if it is taken.
func wantTwin(t *testing.T, text string) bool {
	t.Helper()
	want, wantE, wantAt := twinProgram(text)
	if b, e, at := Program(text); !bytes.Equal(b, want) || e != wantE || at != wantAt {
		t.Fatalf("Program of %.300q (%d bytes): %.100x, %d, %d; want %.100x, %d, %d", text, len(text), b, e, at, want, wantE, wantAt)
	}
	return wantE == api.OK
}

// The chapter's table has each Op once, and no two of its lines begin with the same word.
func TestChapter(t *testing.T) {
	ops, firsts := map[api.Op]int{}, map[string]int{}
	for _, r := range chapter {
		ops[r.op]++
		firsts[strings.Fields(r.line)[0]]++
	}
	if len(chapter) != 31 || len(ops) != 31 || len(firsts) != 31 || ops[0] != 0 || ops[32] != 0 {
		t.Errorf("%d rows, %d Ops, %d first words", len(chapter), len(ops), len(firsts))
	}
	if len(byWord) != len(byOrder) || len(byWord) != len(byLine) {
		t.Errorf("%d words, %d orders, %d lines", len(byWord), len(byOrder), len(byLine))
	}
}

// P16.1: the chapter's row of Decode.
func TestDecodeExamples(t *testing.T) {
	for _, x := range []struct {
		w    uint16
		want api.Order
		is   bool
	}{
		{0x00e0, api.Order{Op: api.OpClear}, true},
		{0x00e1, api.Order{Op: api.OpMachine, At: 0xe1}, true},
		{0x8ab5, api.Order{Op: api.OpMinus, X: 10, Y: 11}, true},
		{0x8ab3, api.Order{}, false},
		{0x5ab1, api.Order{}, false},
		{0xf0ff, api.Order{}, false},
	} {
		if o, is := Decode(x.w); o != x.want || is != x.is {
			t.Errorf("Decode(%04x): %+v, %t", x.w, o, is)
		}
	}
}

// P16.2: the chapter's row of Encode.
func TestEncodeExamples(t *testing.T) {
	for _, x := range []struct {
		o    api.Order
		want uint16
		e    api.Errno
	}{
		{api.Order{Op: api.OpDraw, X: 1, Y: 2, N: 15}, 0xd12f, api.OK},
		{api.Order{Op: api.OpClear, X: 1}, 0, api.ErrOpsNone},
		{api.Order{Op: api.OpMachine, At: 0xe0}, 0, api.ErrOpsNone},
	} {
		if w, e := Encode(x.o); w != x.want || e != x.e {
			t.Errorf("Encode(%+v): %04x, %d", x.o, w, e)
		}
	}
}

// P16.3: the chapter's rows of Print and Parse.
func TestLineExamples(t *testing.T) {
	for _, x := range []struct {
		o    api.Order
		line string
	}{
		{api.Order{Op: api.OpSet, X: 10, Byte: 5}, "set va 05"},
		{api.Order{Op: api.OpJump, At: 2}, "jump 002"},
	} {
		if line, e := Print(x.o); line != x.line || e != api.OK {
			t.Errorf("Print(%+v): %q, %d", x.o, line, e)
		}
		if o, e := Parse(x.line); o != x.o || e != api.OK {
			t.Errorf("Parse(%q): %+v, %d", x.line, o, e)
		}
	}
	for _, line := range []string{"set va 5", "set vA 05", " clear", "machine 0e0"} {
		if o, e := Parse(line); o != (api.Order{}) || e != api.ErrOpsText {
			t.Errorf("Parse(%q): %+v, %d", line, o, e)
		}
	}
}

// P16.4: the chapter's rows of Program.
func TestProgramExamples(t *testing.T) {
	lines := []string{"set v0 01", "loop: ", "  add v0 01 ; more", "jump to loop", "data ff"}
	wantProgram(t, strings.Join(lines, "\n"), bin("60 01 70 01 12 02 ff"))
	wantProgram(t, strings.Join(lines, "\n")+"\n", bin("60 01 70 01 12 02 ff"))
	wantFault(t, "a:\n\na:", api.ErrOpsText, 3)
	wantFault(t, "a:\n\na:\n", api.ErrOpsText, 3)
	wantFault(t, "jump to b", api.ErrOpsNone, 1)
	wantFault(t, "key", api.ErrOpsText, 1)
}

// P16.4: the programs of the document's examples of the whole.
func TestProgramsOfTheWhole(t *testing.T) {
	for _, x := range []struct{ text, want string }{
		{"set v0 05\nup:\nadd v0 01\nskip-is v0 09\njump to up\nstay:\njump to stay\n", "6005 7001 3009 1202 1208"},
		{"set v0 07\nset v1 04\nset v2 08\ndigit v0\ndraw v1 v2 5\nstay:\njump to stay\n", "6007 6104 6208 f029 d125 120a"},
		{"key v3\nstay:\njump to stay\n", "f30a 1202"},
		{"set v5 fe\npoint 300\ncall to split\nstay:\njump to stay\nsplit:\nthree v5\nreturn\n", "65fe a300 2208 1206 f533 00ee"},
		{"set v1 05\nset v2 ff\nplus v2 v1\ndelay v1\nsound v1\nstay:\njump to stay\n", "6105 62ff 8214 f115 f118 120a"},
	} {
		wantProgram(t, x.text, bin(x.want))
	}
}
