package ops

import (
	"fmt"
	"slices"
	"strings"
	"testing"

	"vesper/api"
)

// P16.4: texts that have nothing.
func TestNothing(t *testing.T) {
	for _, text := range []string{
		"", "\n", "\n\n\n", " ", "   ", " \n", "  \n \n", ";", ";\n", " ;", " ; \n;;\n", "; clear", "  ; jump to nowhere\n", ";a:\n;a:\n", ";\t\r\v\x00\xff\n", "\n \n;\n ;x",
		"a:", "a:\n", " a: ", "a:\nb:\n", "a:;b:", "a: ; b:\n\n",
	} {
		wantProgram(t, text, nil)
	}
}

// P16.4: how lines end, where blanks and remarks may stand.
func TestEndsAndBlanks(t *testing.T) {
	for _, x := range []struct{ text, want string }{
		{"clear", "00e0"}, {"clear\n", "00e0"}, {"\nclear", "00e0"}, {"\n\nclear\n\n", "00e0"}, {" clear", "00e0"}, {"clear ", "00e0"}, {"   clear   \n", "00e0"}, {" \n clear\n ", "00e0"},
		{"clear;", "00e0"}, {"clear;return", "00e0"}, {"clear ;return\n", "00e0"}, {"clear; ;\n;clear", "00e0"}, {"clear;\x00\t\xff\r\n", "00e0"}, {"; a\nclear\n; b", "00e0"}, {";clear\nreturn", "00ee"},
		{"clear\nreturn", "00e000ee"}, {"clear\nreturn\n", "00e000ee"}, {"clear\n\n\nreturn", "00e000ee"}, {"clear\n;\n \nreturn\n", "00e000ee"},
		{"set  v0   01", "6001"}, {"  set v0 01  ", "6001"}, {"set v0 01;2", "6001"}, {"draw   v1 v2     f ; x", "d12f"}, {"set v0 01 ; 02", "6001"},
		{"data 00", "00"}, {"data ff\n", "ff"}, {"  data   01   fe  ", "01fe"}, {"data 01;02", "01"}, {"data 01 02 ;03\n", "0102"}, {"data 0a 0b 0c 0d 0e 0f", "0a0b0c0d0e0f"}, {"data 01\ndata 02", "0102"}, {"data 01\nclear\ndata 02 03", "0100e00203"},
		{"a:\njump to a", "1200"}, {"  a:  \n  jump   to   a  ", "1200"}, {"a:;x\njump to a;y", "1200"}, {"jump to a ; b\na: ; c", "1202"}, {"jump  to  a\n\n \n;\na:", "1202"},
	} {
		wantProgram(t, x.text, bin(x.want))
	}
}

// What a line may not be, wherever it stands.
var wrongLines = []string{
	// No order.
	"x", "cls", "Clear", "CLEAR", "clear 0", "clear clear", "clear return", "return 00", "machine", "machine 0e0", "machine 0ee", "machine 00", "machine 0000", "machine ABC", "machine v0", "jump", "jump 2", "jump 02", "jump 0200", "jump 1000", "jump 2AB", "jump v0", "jump 200 200", "jump a", "jump loop", "call", "call 20", "point", "point 0", "jump-by", "jump-by v0",
	"skip-is v0", "skip-is v0 v1", "skip-same v0 00", "skip-is 0 00", "set v0 1", "set v0 001", "set v0 0F", "set vA 00", "set V0 00", "set v10 00", "set v 00", "set v0", "set", "set v0 00 00", "add v0,01", "add v0, 01", "draw v0 v1", "draw v0 v1 00", "draw v0 v1 v2", "draw v0 v1 2 3", "key", "key 0", "key v0 v1", "fill", "fill v16",
	// No label where none may stand; no name where one must.
	"clear to a", "return to a", "set to a", "set v0 to a", "skip-is to a", "skip-same to a", "key to a", "random to a", "draw to a", "draw to a b", "data to a", "data to aa", "a to b", "to a", "to to a", "to",
	"jump to", "jump to A", "jump to 0", "jump to 200", "jump to -", "jump to -a", "jump to a:", "jump to a b", "jump to a 00", "jump to to a", "jump to a_b", "jump to a.b", "jump to abcdefghijklmnopq", "jump to ä", "jump To a", "jump TO a", "jump a to", "jump 200 to a", "jump tob", "jump-to a", "machine to", "call to 0a", "point to Z", "jump-by to aB", "jump to a\x00", "jump to \xff",
	// No label.
	":", "::", "a::", ":a", "a :", "a: :", "a:b", "a:b:", "a: b:", "a: clear", "clear a:", "A:", "aB:", "0:", "0a:", "-:", "-a:", "_:", "a_:", "a.b:", "a b:", "abcdefghijklmnopq:", "ä:", "a\x00:", "a:\x00", "\xff:", "a:data 00", "a", "abc",
	// No data.
	"data", "data 0", "data 000", "data 0000", "data 0F", "data F0", "data FF", "data 0x", "data 0x0", "data g0", "data 0g", "data -1", "data +1", "data 00 1", "data 00 001", "data 00,01", "data 00, 01", "data 00 01 GG", "data v0", "data 00 clear", "data 00 data 00", "data 00 a:", "Data 00", "DATA 00", "dat 00", "data00", "00", "ff ff",
	// Other white space is no blank.
	"\t", "\r", "\v", "\f", "\u00a0", "\u0085", "\u2003", "\x00", "\x1f", "\tclear", "clear\t", "clear\r", "\rclear", "clear\v", "\fclear", "set\tv0\t00", "set v0\t00", "data\t00", "data 00\t01", "data 00\r", "a:\t", "a:\r", "\ta:", "jump\tto a", "jump to\ta", "clear\u00a0", "\u00a0clear", "\xa0clear", "\x85clear", "set\u00a0v0 00",
	// Remarks of another form.
	"# a", "// a", "clear # a", "clear // a", "' a", "clear : a", "-- a",
}

// P16.4: lines that are none, alone, behind others and ahead of them; with remarks and blanks, too.
func TestWrongLines(t *testing.T) {
	for _, line := range wrongLines {
		wantFault(t, line, api.ErrOpsText, 1)
		wantFault(t, line+"\n", api.ErrOpsText, 1)
		wantFault(t, "  "+line+"  \n", api.ErrOpsText, 1)
		wantFault(t, line+";", api.ErrOpsText, 1)
		wantFault(t, line+" ; clear\n", api.ErrOpsText, 1)
		wantFault(t, line+"\n\nclear\n", api.ErrOpsText, 1)
		wantFault(t, "\n \n;\n"+line, api.ErrOpsText, 4)
		wantFault(t, "clear\nb:\njump to b\ndata 00\n"+line+"\nclear", api.ErrOpsText, 5)
		wantFault(t, "clear\n;"+line+"\n"+line+"\n"+line, api.ErrOpsText, 3)
		wantProgram(t, ";"+line, nil)
		wantProgram(t, "clear;"+line+"\nreturn", bin("00e000ee"))
	}
}

// P16.4, P16.6: each row's line is its word, at its edges and within.
func TestProgramOfEachRow(t *testing.T) {
	for _, r := range chapter {
		for _, with := range []*strings.Replacer{
			strings.NewReplacer("NNN", "000", "NN", "00", "N", "0", "X", "0", "Y", "0"),
			strings.NewReplacer("NNN", "fff", "NN", "ff", "N", "f", "X", "f", "Y", "f"),
			strings.NewReplacer("NNN", "abc", "NN", "bc", "N", "c", "X", "a", "Y", "b"),
		} {
			line, word := with.Replace(r.line), with.Replace(r.word)
			wantProgram(t, line, bin(word))
			wantProgram(t, "\n  "+strings.ReplaceAll(line, " ", "   ")+" ; x\n", bin(word))
			wantProgram(t, line+"\n"+line+"\ndata 5a\n"+line, bin(word+word+"5a"+word))
		}
	}
}

var branches = map[string]int{"machine": 0x0000, "jump": 0x1000, "call": 0x2000, "point": 0xa000, "jump-by": 0xb000}

// P16.4: a label in each order that may have one, ahead of its use, behind it and both, at even addresses and odd ones.
func TestLabels(t *testing.T) {
	for first, base := range branches {
		word := func(at int) string { return fmt.Sprintf("%04x", base|at) }
		wantProgram(t, "a:\n"+first+" to a", bin(word(0x200)))
		wantProgram(t, first+" to a\na:", bin(word(0x202)))
		wantProgram(t, "clear\na:\n"+first+" to a\n"+first+" to b\nb:\n", bin("00e0"+word(0x202)+word(0x206)))
		wantProgram(t, "data 01\na:\ndata 02 03\n"+first+" to a\n"+first+" to b\ndata 04\nb:\n", bin("010203"+word(0x201)+word(0x208)+"04"))
		wantProgram(t, "a:\nb:\nc:\n"+first+" to c\n"+first+" to b\n"+first+" to a\n", bin(word(0x200)+word(0x200)+word(0x200)))
		wantProgram(t, first+" to a\n"+first+" to a\na:\n"+first+" to a\n", bin(word(0x204)+word(0x204)+word(0x204)))
		wantFault(t, first+" to a", api.ErrOpsNone, 1)
		wantFault(t, "\nb:\nclear\n"+first+" to a\n"+first+" to b", api.ErrOpsNone, 4)
	}
}

// P16.4: labels at all sorts of addresses, the least and the greatest among them.
func TestAddresses(t *testing.T) {
	for ahead := 0; ahead <= 3230; ahead += 1 + ahead/40 {
		for first, base := range branches {
			own := base + 0x200 + ahead
			wantProgram(t, strings.Repeat("data 7f\n", ahead)+"here:\n"+first+" to here", append(bin(strings.Repeat("7f", ahead)), byte(own>>8), byte(own)))
		}
	}
	// The greatest address is that behind the last byte.
	full := "jump to end\npoint to end\n" + strings.Repeat("data 00\n", 3228)
	want := append(bin("1ea0aea0"), make([]byte, 3228)...)
	wantProgram(t, full+"end:", want)
	wantProgram(t, full+"end:\n\n;\nother:\n", want)
	wantFault(t, full+"end:\ndata 00", api.ErrLong, 3232)
}

// P16.4: a label that is there ahead, near and far, ahead of its use and behind it.
func TestLabelTwice(t *testing.T) {
	wantFault(t, "a:\na:", api.ErrOpsText, 2)
	wantFault(t, "a:\nb:\na:\nb:\n", api.ErrOpsText, 3)
	wantFault(t, "jump to a\na:\nclear\n\n  a:  ;x\n", api.ErrOpsText, 5)
	wantFault(t, "a:\njump to a\na:\njump to a\n", api.ErrOpsText, 3)
	wantFault(t, "a:\n"+strings.Repeat("\n", 2000)+"a:", api.ErrOpsText, 2002)
	wantProgram(t, "a:\n;a:\naa:\na-:\na0:\njump to a0", bin("1200"))
	for _, first := range []string{"data", "to", "clear", "jump"} {
		wantFault(t, first+":\n"+first+":\n", api.ErrOpsText, 2)
	}
}

// P16.4: names of 1, 16 and 17 bytes, with each byte at each place, as labels and as they are named.
func TestNames(t *testing.T) {
	for _, length := range []int{1, 2, 15, 16, 17} {
		for place := range length {
			for b := range 256 {
				sign := []byte(strings.Repeat("k", length))
				sign[place] = byte(b)
				name := string(sign)
				wantTwin(t, name+":\njump to "+name)
				wantTwin(t, "call to "+name+"\n"+strings.Repeat("k", length)+":\n")
				wantTwin(t, "clear\n"+name+":\n")
			}
		}
	}
	for _, length := range []int{1, 2, 15, 16} {
		for _, sign := range []string{"a", "z", "m"} {
			name := sign + strings.Repeat("-", length-1)
			wantProgram(t, name+":\njump to "+name, bin("1200"))
			wantProgram(t, "point to "+name+"\n"+name+":", bin("a202"))
		}
	}
	wantProgram(t, "abcdefghijklmnop:\njump to abcdefghijklmnop", bin("1200"))
	wantProgram(t, "abcdefghijklmnop:\nclear\nabcdefghijklmno:\njump to abcdefghijklmno\njump to abcdefghijklmnop", bin("00e0 1202 1200"))
	wantFault(t, "abcdefghijklmnopq:\n", api.ErrOpsText, 1)
	wantFault(t, "a:\njump to abcdefghijklmnopq\n", api.ErrOpsText, 2)
}

// P16.4: labels that are called like an order's first word, like `data` and `to`, like digits.
func TestNamesLikeWords(t *testing.T) {
	words := []string{"data", "to", "abc", "ff", "v0", "e", "a-b"}
	for _, r := range chapter {
		words = append(words, strings.Fields(r.line)[0])
	}
	for _, word := range words {
		wantProgram(t, "clear\n"+word+":\njump to "+word, bin("00e0 1202"))
		wantProgram(t, "call to "+word+"\n  "+word+": ; x", bin("2202"))
		wantFault(t, "call to "+word, api.ErrOpsNone, 1)
		wantFault(t, word+" :", api.ErrOpsText, 1)
	}
	// Digits are an address, though a label is called so.
	wantProgram(t, "clear\nabc:\njump abc\njump to abc", bin("00e0 1abc 1202"))
}

// P16.4: as many bytes as may be, and one more, by orders and by data.
func TestProgramSize(t *testing.T) {
	orders := func(n int) string { return strings.Repeat("clear\n", n) }
	data := func(n int) string { return "data" + strings.Repeat(" a5", n) + "\n" }
	many := func(n int) []byte { return bin(strings.Repeat("a5", n)) }
	wantProgram(t, orders(1616), bin(strings.Repeat("00e0", 1616)))
	wantProgram(t, orders(1616)+"\n;\nz:\n \n", bin(strings.Repeat("00e0", 1616)))
	wantFault(t, orders(1617), api.ErrLong, 1617)
	wantFault(t, orders(1616)+"\n;\njump to a\na:", api.ErrLong, 1619)
	wantFault(t, orders(1616)+"data 00", api.ErrLong, 1617)
	wantFault(t, orders(3000), api.ErrLong, 1617)
	wantProgram(t, data(3231), many(3231))
	wantProgram(t, data(3232), many(3232))
	wantFault(t, data(3233), api.ErrLong, 1)
	wantFault(t, data(3234), api.ErrLong, 1)
	wantFault(t, data(21000), api.ErrLong, 1)
	wantProgram(t, data(3231)+data(1), many(3232))
	wantFault(t, data(3231)+data(2), api.ErrLong, 2)
	wantProgram(t, data(3230)+"clear", append(many(3230), 0, 0xe0))
	wantFault(t, data(3231)+"clear", api.ErrLong, 2)
	wantFault(t, data(3232)+"clear", api.ErrLong, 2)
	wantFault(t, "\n"+data(3232)+"\n"+data(1), api.ErrLong, 4)
	wantProgram(t, "a:\n"+data(1)+"jump to a\n"+data(3229), append(append(many(1), 0x12, 0x00), many(3229)...))
	wantFault(t, "a:\n"+data(1)+"jump to a\n"+data(3230), api.ErrLong, 4)
	wantProgram(t, strings.Repeat(data(32), 101), many(3232))
	wantFault(t, strings.Repeat(data(32), 102), api.ErrLong, 102)
	wantFault(t, strings.Repeat(data(33), 98), api.ErrLong, 98)
}

// P16.4: texts of 65536 bytes and of one more, whatever they are made of.
func TestTextSize(t *testing.T) {
	for _, x := range []struct{ head, fill, tail, want string }{
		{"", "\n", "", ""}, {"", " ", "", ""}, {";", "x", "", ""}, {"clear\n", "\n", "return", "00e000ee"}, {"clear ;", ";", "\nreturn\n", "00e000ee"}, {"set ", " ", "v0 01", "6001"}, {"a:\njump", " ", "to a", "1200"},
		{"data 01", " ", "", "01"}, {"", " ", "clear", "00e0"}, {"clear", " ", "", "00e0"}, {"jump to a\n", "\n", "a:", "1202"},
	} {
		text := func(n int) string {
			return x.head + strings.Repeat(x.fill, n-len(x.head)-len(x.tail)) + x.tail
		}
		wantProgram(t, text(65535), bin(x.want))
		wantProgram(t, text(65536), bin(x.want))
		wantFault(t, text(65537), api.ErrLong, 0)
		wantFault(t, text(100000), api.ErrLong, 0)
	}
	// Nothing is told ahead of a text that is too long.
	for _, line := range []string{"x\n", "jump to a\n", "a:\na:\n", "data" + strings.Repeat(" 00", 4000) + "\n"} {
		wantFault(t, line+strings.Repeat("\n", 65537-len(line)), api.ErrLong, 0)
		wantFault(t, line+strings.Repeat("\n", 1<<18), api.ErrLong, 0)
	}
	wantFault(t, strings.Repeat("\n", 65535)+"x", api.ErrOpsText, 65536)
	wantFault(t, strings.Repeat("\n", 65536)+"x", api.ErrLong, 0)
	wantFault(t, strings.Repeat("jump to a\n", 1616)+strings.Repeat("\n", 65536-16160), api.ErrOpsNone, 1)
}

// P16.4: many labels, each of its own.
func TestManyLabels(t *testing.T) {
	var text strings.Builder
	n := 0
	for ; text.Len() < 64000; n++ {
		fmt.Fprintf(&text, "l%d:\n", n)
	}
	wantProgram(t, text.String(), nil)
	last := fmt.Sprintf("l%d", n-1)
	wantProgram(t, text.String()+"clear\njump to "+last+"\n", bin("00e01200"))
	wantFault(t, text.String()+last+":", api.ErrOpsText, n+1)
	wantFault(t, text.String()+"l0:", api.ErrOpsText, n+1)
	wantFault(t, text.String()+"jump to l\n", api.ErrOpsNone, n+1)
}

// P16.4: two errors in one text, in both orders, of two lines and of one.
func TestTwoErrors(t *testing.T) {
	full := strings.Repeat("data"+strings.Repeat(" 00", 32)+"\n", 101)
	// ErrOpsText and ErrLong: the first line of both.
	wantFault(t, full+"x\nclear", api.ErrOpsText, 102)
	wantFault(t, full+"clear\nx", api.ErrLong, 102)
	wantFault(t, "a:\n"+full+"a:\nclear", api.ErrOpsText, 103)
	wantFault(t, "a:\n"+full+"clear\na:", api.ErrLong, 103)
	wantFault(t, full+"data 00\ndata", api.ErrLong, 102)
	wantFault(t, full+"data\ndata 00", api.ErrOpsText, 102)
	// Of one line ErrOpsText.
	wantFault(t, full+"data 00 0", api.ErrOpsText, 102)
	wantFault(t, full+"data 00 00 GG", api.ErrOpsText, 102)
	wantFault(t, "data"+strings.Repeat(" 00", 3233)+" 0", api.ErrOpsText, 1)
	wantFault(t, "data"+strings.Repeat(" 00", 10000)+" clear", api.ErrOpsText, 1)
	wantFault(t, full+"set v0 1", api.ErrOpsText, 102)
	wantFault(t, full+"jump to A", api.ErrOpsText, 102)
	// ErrOpsNone comes behind both, wherever it stands.
	wantFault(t, "jump to b\nx", api.ErrOpsText, 2)
	wantFault(t, "x\njump to b", api.ErrOpsText, 1)
	wantFault(t, "jump to b\na:\na:", api.ErrOpsText, 3)
	wantFault(t, "a:\na:\njump to b", api.ErrOpsText, 2)
	wantFault(t, "jump to b\n"+full, api.ErrLong, 102)
	wantFault(t, full+"jump to b", api.ErrLong, 102)
	wantFault(t, full+"jump to b\nb:", api.ErrLong, 102)
	wantFault(t, "jump to b\n"+full+"x", api.ErrLong, 102)
	wantFault(t, "jump to b\n\n"+strings.Repeat("\n", 5000)+"x", api.ErrOpsText, 5003)
	// A line that names a label and is none.
	wantFault(t, "jump to b c", api.ErrOpsText, 1)
	wantFault(t, "set to b", api.ErrOpsText, 1)
	// Two of one sort: the first one.
	wantFault(t, "x\ny", api.ErrOpsText, 1)
	wantFault(t, "a:\nb:\nb:\na:", api.ErrOpsText, 3)
	wantFault(t, full+"clear\nclear", api.ErrLong, 102)
	wantFault(t, "clear\njump to b\ncall to c", api.ErrOpsNone, 2)
	wantFault(t, "clear\njump to c\ncall to b\nc:", api.ErrOpsNone, 3)
	wantFault(t, "jump to a\ncall to c\na:\njump to b\n", api.ErrOpsNone, 2)
}

// P16.6: the lines of every order, 1616 at most in a text, are their words.
func TestProgramsOfAllOrders(t *testing.T) {
	var orders []known
	for w := range 65536 {
		if k, is := byWord[uint16(w)]; is {
			orders = append(orders, k)
		}
	}
	d := uint64(2)
	for k := range orders {
		other := draw(&d, len(orders))
		orders[k], orders[other] = orders[other], orders[k]
	}
	for some := range slices.Chunk(orders, 1616) {
		var text strings.Builder
		var want []byte
		for _, k := range some {
			line, e := Print(k.order)
			if e != api.OK {
				t.Fatalf("Print(%+v): %d", k.order, e)
			}
			text.WriteString(line + "\n")
			want = append(want, byte(k.word>>8), byte(k.word))
		}
		wantProgram(t, text.String(), want)
		wantProgram(t, strings.TrimSuffix(text.String(), "\n"), want)
	}
}

// randomLines are the lines of a program that may be: orders, data, labels and orders that name them.
func randomLines(d *uint64, most int) []string {
	labels := []string{"a", "b", "loop", "data", "to", "abcdefghijklmnop", "x-1"}
	var lines []string
	for range draw(d, most) {
		switch draw(d, 4) {
		case 0:
			line := "data"
			for range 1 + draw(d, 5) {
				line += fmt.Sprintf(" %02x", draw(d, 256))
			}
			lines = append(lines, line)
		case 1:
			first := []string{"machine", "jump", "call", "point", "jump-by"}[draw(d, 5)]
			lines = append(lines, first+" to "+labels[draw(d, len(labels))])
		default:
			for {
				if k, is := byWord[uint16(draw(d, 65536))]; is {
					lines = append(lines, k.line)
					break
				}
			}
		}
	}
	for _, name := range labels {
		lines = slices.Insert(lines, draw(d, len(lines)+1), name+":")
	}
	return lines
}

// dressed is lines as a text, with remarks, blanks, lines without words and labels that no line names laid about their words.
func dressed(d *uint64, lines []string) string {
	fill := func(least int) string { return strings.Repeat(" ", least+draw(d, 3)) }
	remark := func() string {
		return []string{"", "", ";", "; a:", ";;\t", "; clear", ";\r", ";\xff\x00", ";jump to nowhere"}[draw(d, 9)]
	}
	var s strings.Builder
	for n, line := range lines {
		for range draw(d, 2) {
			s.WriteString(fill(0) + remark() + "\n")
		}
		if draw(d, 4) == 0 {
			fmt.Fprintf(&s, "%sunused-%d:%s%s\n", fill(0), n, fill(0), remark())
		}
		s.WriteString(fill(0))
		for k, word := range strings.Split(line, " ") {
			if k > 0 {
				s.WriteString(fill(1))
			}
			s.WriteString(word)
		}
		s.WriteString(fill(0) + remark() + "\n")
	}
	s.WriteString(fill(0) + remark())
	return s.String()
}

// P16.4, P16.6: remarks, lines without words, blanks and labels that no line names change nothing.
func TestDressed(t *testing.T) {
	d := uint64(3)
	for range 1500 {
		lines := randomLines(&d, 30)
		want, e, at := Program(strings.Join(lines, "\n"))
		if e != api.OK || at != 0 {
			t.Fatalf("Program of %q: %d, %d", lines, e, at)
		}
		wantProgram(t, strings.Join(lines, "\n")+"\n", want)
		wantProgram(t, dressed(&d, lines), want)
	}
}

// P16.4: texts with a few bytes, words and lines changed, against the twin.
func TestProgramSweep(t *testing.T) {
	d := uint64(4)
	const signs = "  \t\n\n;:aAfv09-to\r\x00\xff"
	count := map[api.Errno]int{}
	for range 20000 {
		lines := randomLines(&d, 8)
		for range draw(&d, 3) {
			switch at := draw(&d, len(lines)); draw(&d, 3) {
			case 0:
				lines = slices.Delete(lines, at, at+1)
			case 1:
				lines = slices.Insert(lines, at, lines[draw(&d, len(lines))])
			default:
				lines[at] = wrongLines[draw(&d, len(wrongLines))]
			}
		}
		text := []byte(strings.Join(lines, "\n"))
		for range draw(&d, 3) {
			at, b := draw(&d, len(text)+1), signs[draw(&d, len(signs))]
			switch {
			case draw(&d, 2) == 0 || at == len(text):
				text = slices.Insert(text, at, b)
			case draw(&d, 2) == 0:
				text[at] = b
			default:
				text = slices.Delete(text, at, at+1)
			}
		}
		wantTwin(t, string(text))
		_, e, _ := Program(string(text))
		count[e]++
	}
	if count[api.OK] < 2000 || count[api.ErrOpsText] < 2000 || count[api.ErrOpsNone] < 200 {
		t.Errorf("how many of each: %v", count)
	}
}

// P16.4: programs about as long as may be, with lines that are none and labels that are nowhere.
func TestLongSweep(t *testing.T) {
	d := uint64(5)
	count := map[api.Errno]int{}
	for range 300 {
		var lines []string
		for bytes := draw(&d, 8); bytes < 3232; {
			n := 1 + draw(&d, 60)
			bytes += n
			lines = append(lines, "data"+strings.Repeat(" 11", n))
		}
		lines = append(lines, "end:")
		for range draw(&d, 3) {
			extra := []string{"x", "jump to end", "jump to away", "end:", "data 00 00 00", "clear"}[draw(&d, 6)]
			lines = slices.Insert(lines, draw(&d, len(lines)+1), extra)
		}
		if draw(&d, 2) == 0 {
			lines = lines[draw(&d, 3):]
		}
		text := strings.Join(lines, "\n")
		wantTwin(t, text)
		_, e, _ := Program(text)
		count[e]++
	}
	if len(count) != 4 {
		t.Errorf("how many of each: %v", count)
	}
}

// P16.4: any words in any order, any bytes at all.
func TestProgramOfAnything(t *testing.T) {
	d := uint64(6)
	words := []string{" ", " ", " ", "\n", "\n", ";", ":", "a", "a:", "b:", "loop", "to", "data", "clear", "jump", "call", "set", "key", "draw", "machine", "v0", "va", "0", "00", "ff", "200", "0e0", "loop:", "\t"}
	for range 30000 {
		var s strings.Builder
		for range draw(&d, 14) {
			s.WriteString(words[draw(&d, len(words))])
		}
		wantTwin(t, s.String())
	}
	for range 5000 {
		b := make([]byte, draw(&d, 30))
		for k := range b {
			b[k] = byte(draw(&d, 256))
		}
		wantTwin(t, string(b))
	}
	for b := range 256 {
		for _, other := range " \t\n;:a0\r" {
			wantTwin(t, string([]byte{byte(b), byte(other)}))
			wantTwin(t, string([]byte{byte(other), byte(b)}))
		}
		for _, text := range []string{"data 12 34", "jump to a\na:", "set v1 23", "clear\nclear"} {
			for place := range len(text) + 1 {
				wantTwin(t, text[:place]+string([]byte{byte(b)})+text[place:])
			}
		}
	}
}
