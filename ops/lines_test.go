package ops

import (
	"strings"
	"testing"

	"vesper/api"
)

// wantLine: Parse of a line is the order of which the chapter writes it; true, if there is one.
func wantLine(t *testing.T, line string) bool {
	t.Helper()
	k, is := byLine[line]
	want := api.OK
	if !is {
		want = api.ErrOpsText
	}
	if o, e := Parse(line); o != k.order || e != want {
		t.Fatalf("Parse(%.100q): %+v, %d; want %+v, %d", line, o, e, k.order, want)
	}
	return is
}

// wantNoLine: Parse takes no such line.
func wantNoLine(t *testing.T, line string) {
	t.Helper()
	if o, e := Parse(line); o != (api.Order{}) || e != api.ErrOpsText {
		t.Errorf("Parse(%.100q): %+v, %d", line, o, e)
	}
}

// P16.3, P16.5: the line of every order, printed and parsed.
func TestAllLines(t *testing.T) {
	for w := range 65536 {
		k, is := byWord[uint16(w)]
		if !is {
			continue
		}
		line, e := Print(k.order)
		if line != k.line || e != api.OK {
			t.Fatalf("Print(%+v): %q, %d; want %q", k.order, line, e, k.line)
		}
		o, e := Parse(line)
		if o != k.order || e != api.OK {
			t.Fatalf("Parse(%q): %+v, %d; want %+v", line, o, e, k.order)
		}
	}
}

// P16.3: each row's line, word for word.
func TestLineOfEachRow(t *testing.T) {
	lines := []string{
		"machine abc", "clear", "return", "jump abc", "call abc", "skip-is va bc", "skip-not va bc", "skip-same va vb", "set va bc", "add va bc",
		"move va vb", "or va vb", "and va vb", "plus va vb", "minus va vb", "skip-other va vb", "point abc", "jump-by abc", "random va bc", "draw va vb c",
		"skip-down va", "skip-up va", "timer va", "key va", "delay va", "sound va", "on va", "digit va", "three va", "store va", "fill va",
	}
	orders := []api.Order{
		{At: 0xabc}, {}, {}, {At: 0xabc}, {At: 0xabc}, {X: 10, Byte: 0xbc}, {X: 10, Byte: 0xbc}, {X: 10, Y: 11}, {X: 10, Byte: 0xbc}, {X: 10, Byte: 0xbc},
		{X: 10, Y: 11}, {X: 10, Y: 11}, {X: 10, Y: 11}, {X: 10, Y: 11}, {X: 10, Y: 11}, {X: 10, Y: 11}, {At: 0xabc}, {At: 0xabc}, {X: 10, Byte: 0xbc}, {X: 10, Y: 11, N: 12},
		{X: 10}, {X: 10}, {X: 10}, {X: 10}, {X: 10}, {X: 10}, {X: 10}, {X: 10}, {X: 10}, {X: 10}, {X: 10},
	}
	for k, line := range lines {
		o := orders[k]
		o.Op = api.Op(k + 1)
		if s, e := Print(o); s != line || e != api.OK {
			t.Errorf("Print(%+v): %q, %d; want %q", o, s, e, line)
		}
		if back, e := Parse(line); back != o || e != api.OK {
			t.Errorf("Parse(%q): %+v, %d; want %+v", line, back, e, o)
		}
	}
}

// sample is a line of a row, its fields at values that have letters in them.
func sample(r told) string {
	return strings.NewReplacer("NNN", "abc", "NN", "bc", "N", "c", "X", "a", "Y", "b").Replace(r.line)
}

// P16.3: of each row lines with great letters, digits too few and too many, blanks that may not be.
func TestWrongFormOfEachRow(t *testing.T) {
	for _, r := range chapter {
		line := sample(r)
		if !wantLine(t, line) {
			t.Errorf("%q is no line", line)
		}
		for k := range line {
			if great := strings.ToUpper(line[k : k+1]); great != line[k:k+1] {
				wantNoLine(t, line[:k]+great+line[k+1:])
			}
			if line[k] == ' ' {
				wantNoLine(t, line[:k]+" "+line[k:])
				wantNoLine(t, line[:k]+line[k+1:])
				wantNoLine(t, line[:k]+"\t"+line[k+1:])
				wantNoLine(t, line[:k])
				wantNoLine(t, line[:k+1])
			}
		}
		words := strings.Fields(line)
		for k := 1; k < len(words); k++ {
			for _, word := range []string{words[k][:len(words[k])-1], words[k] + "0", words[k][:1] + "0" + words[k][1:], "0" + words[k], strings.TrimPrefix(words[k], "v"), "v" + words[k], "", "v", "x", "to", "-1", "+1", "0x1", "g", "gg", "ggg", "vg", "v-", "Va", "VA"} {
				if word == words[k] {
					continue
				}
				other := append([]string{}, words...)
				other[k] = word
				wantNoLine(t, strings.Join(other, " "))
			}
		}
		for _, s := range []string{" " + line, line + " ", "  " + line, line + "  ", line + "\n", "\n" + line, "\t" + line, line + "\t", line + "\r", line + "\x00", "\x00" + line, line + ";", line + " ; a", line + ":", line + " 0", line + " v0", line + " " + line, strings.ToUpper(line)} {
			wantNoLine(t, s)
		}
		if len(words) > 1 {
			wantNoLine(t, words[0])
			wantNoLine(t, words[0]+" to a")
			wantNoLine(t, words[0]+" to abc")
		}
	}
}

// P16.3: lines of no words, of other words, of no order.
func TestNoLines(t *testing.T) {
	for _, line := range []string{
		"", " ", "  ", "   ", "\n", "\t", ";", "a:", "data 00", "to", "v0", "00", "machine", "machine 0e0", "machine 0ee", "machine 0E0", "machine 00e0", "machine 1000", "jump", "jump 2", "jump 0200", "jump 1000", "jump to a",
		"Clear", "CLEAR", "clea", "clears", "clear 0", "clear 00e0", "cls", "return 0", "ret", "skip", "skip-", "skip-is", "skip is v0 00", "skip_is v0 00", "skip-is v0", "skip-is v0 v1", "skip-same v0 00", "set v0", "set 0 00", "set v0 0 0", "set v00 00", "set v10 00",
		"set 00 v0", "add v0, 01", "move v0", "move v0 v1 v2", "xor v0 v1", "draw v0 v1", "draw v0 v1 00", "draw v0 v1 10", "draw v0 v1 v2", "draw 0 1 2", "key", "key 0", "key v", "key v0 v1", "key vv0", "é", "set vé 00", "set v０ 00", "\xff", "set v0 \xff\xff", "set v\x00 00",
		"jump-by", "jump -by 200", "jump by 200", "jumpby 200", "machine 0e0 ", "  clear", "clear  ",
	} {
		wantNoLine(t, line)
		if _, is := byLine[line]; is {
			t.Errorf("the chapter takes %q", line)
		}
	}
}

// P16.3: machine's lines at and beside those of clear and return.
func TestMachineLines(t *testing.T) {
	for _, digits := range []string{"000", "0df", "0e1", "0ed", "0ef", "1e0", "1ee", "fff", "00e"} {
		if !wantLine(t, "machine "+digits) {
			t.Errorf("machine %s is no line", digits)
		}
	}
	for _, first := range []string{"jump", "call", "point", "jump-by"} {
		for _, digits := range []string{"0e0", "0ee"} {
			if !wantLine(t, first+" "+digits) {
				t.Errorf("%s %s is no line", first, digits)
			}
		}
	}
}

// P16.3: each byte in each place of each row's line, laid over and laid between.
func TestBytesInLines(t *testing.T) {
	for _, r := range chapter {
		line := sample(r)
		for place := range len(line) + 1 {
			for b := range 256 {
				sign := string([]byte{byte(b)})
				wantLine(t, line[:place]+sign+line[place:])
				if place < len(line) {
					wantLine(t, line[:place]+sign+line[place+1:])
				}
			}
		}
	}
}

// P16.3: each first word with words of all sorts behind it.
func TestWordsInLines(t *testing.T) {
	words := []string{"0", "a", "00", "0a", "ff", "000", "abc", "0e0", "0ee", "0000", "v0", "va", "vf", "vg", "v00", "", "to"}
	taken := 0
	count := func(is bool) {
		if is {
			taken++
		}
	}
	for _, r := range chapter {
		first := strings.Fields(r.line)[0]
		count(wantLine(t, first))
		for _, a := range words {
			count(wantLine(t, first+" "+a))
			for _, b := range words {
				count(wantLine(t, first+" "+a+" "+b))
				for _, c := range words {
					count(wantLine(t, first+" "+a+" "+b+" "+c))
				}
			}
		}
	}
	if taken < 150 {
		t.Errorf("%d lines are taken", taken)
	}
}

// R1: lines of any length end.
func TestLongLines(t *testing.T) {
	for _, sign := range []string{" ", "a", "0", "v", "clear ", "\n", "set v0 00 "} {
		wantNoLine(t, strings.Repeat(sign, 1<<20))
	}
	for _, line := range []string{"clear", "jump 200", "draw v0 v1 2"} {
		wantNoLine(t, line+strings.Repeat(" ", 1<<20))
		wantNoLine(t, strings.Repeat(" ", 1<<20)+line)
		wantNoLine(t, line+strings.Repeat("0", 1<<20))
	}
}
