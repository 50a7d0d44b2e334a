package source

import (
	"slices"
	"strings"
	"testing"

	"vesper/api"
)

// filled is items whose text has just so many bytes (3 or more).
func filled(bytes int) []api.Item {
	var l []api.Item
	for bytes > 0 {
		length := bytes
		switch {
		case bytes >= 774+3:
			length = 774
			l = append(l, api.Item{Kind: api.ItemData, Bytes: make([]byte, 256)})
		case bytes > 18:
			length = min(18, bytes-3)
			fallthrough
		default:
			l = append(l, api.Item{Kind: api.ItemLabel, Name: strings.Repeat("n", length-2)})
		}
		bytes -= length
	}
	return l
}

// P13.3, P13.4: items and their lines.
func TestLines(t *testing.T) {
	long := strings.Repeat("q", 16)
	for _, x := range []struct {
		item api.Item
		line string
	}{
		{api.Item{Kind: api.ItemLabel, Name: "a"}, "a:"},
		{api.Item{Kind: api.ItemLabel, Name: "z-09"}, "z-09:"},
		{api.Item{Kind: api.ItemLabel, Name: long}, "qqqqqqqqqqqqqqqq:"},
		{api.Item{Kind: api.ItemLabel, Name: "data"}, "data:"},
		{api.Item{Kind: api.ItemCode, Name: "IDL"}, " IDL"},
		{api.Item{Kind: api.ItemCode, Name: "LSDF"}, " LSDF"},
		{api.Item{Kind: api.ItemCode, Name: "LDN", Arg: 1}, " LDN 1"},
		{api.Item{Kind: api.ItemCode, Name: "SEX"}, " SEX 0"},
		{api.Item{Kind: api.ItemCode, Name: "PHI", Arg: 15}, " PHI f"},
		{api.Item{Kind: api.ItemCode, Name: "OUT", Arg: 7}, " OUT 7"},
		{api.Item{Kind: api.ItemCode, Name: "INP", Arg: 1}, " INP 1"},
		{api.Item{Kind: api.ItemCode, Name: "LDI"}, " LDI 00"},
		{api.Item{Kind: api.ItemCode, Name: "SMI", Arg: 0xab}, " SMI ab"},
		{api.Item{Kind: api.ItemCode, Name: "LDI", Label: "ab", Part: api.PartHigh}, " LDI high ab"},
		{api.Item{Kind: api.ItemCode, Name: "LDI", Label: long, Part: api.PartLow}, " LDI low qqqqqqqqqqqqqqqq"},
		{api.Item{Kind: api.ItemCode, Name: "XRI", Label: "high", Part: api.PartHigh}, " XRI high high"},
		{api.Item{Kind: api.ItemCode, Name: "BN4", Arg: 255}, " BN4 ff"},
		{api.Item{Kind: api.ItemCode, Name: "BR", Arg: 5}, " BR 05"},
		{api.Item{Kind: api.ItemCode, Name: "BR", Label: "to", Part: api.PartAll}, " BR to to"},
		{api.Item{Kind: api.ItemCode, Name: "LBR", Arg: 0xa}, " LBR 000a"},
		{api.Item{Kind: api.ItemCode, Name: "LBNF", Arg: 65535}, " LBNF ffff"},
		{api.Item{Kind: api.ItemCode, Name: "LBR", Label: "fade", Part: api.PartAll}, " LBR to fade"},
		{api.Item{Kind: api.ItemData, Bytes: []byte{0}}, " data 00"},
		{api.Item{Kind: api.ItemData, Bytes: []byte{0xff, 0x0a, 0xa0}}, " data ff 0a a0"},
		{api.Item{Kind: api.ItemData, Bytes: slices.Repeat([]byte{0x5c}, 256)}, " data" + strings.Repeat(" 5c", 256)},
		{api.Item{Kind: api.ItemAt}, " at 0000"},
		{api.Item{Kind: api.ItemAt, Arg: 0x0abc}, " at 0abc"},
		{api.Item{Kind: api.ItemAt, Arg: 65535}, " at ffff"},
		{api.Item{Kind: api.ItemAddress, Label: "a"}, " address a"},
		{api.Item{Kind: api.ItemAddress, Label: long}, " address qqqqqqqqqqqqqqqq"},
		{api.Item{Kind: api.ItemAddress, Label: "at"}, " address at"},
	} {
		if s, e := Print([]api.Item{x.item}); s != x.line+"\n" || e != api.OK {
			t.Errorf("Print of %s: %q, %d", show(x.item), s, e)
		}
		if s, e := Print([]api.Item{x.item, nop, x.item}); s != x.line+"\n NOP\n"+x.line+"\n" || e != api.OK {
			t.Errorf("Print of %s, NOP and it: %q, %d", show(x.item), s, e)
		}
		wantItems(t, x.line+"\n", x.item)
		wantItems(t, x.line, x.item)
		wantItems(t, "\n"+x.line+"\n\n", x.item)
		wantItems(t, " NOP\n"+x.line+"\n"+x.line, nop, x.item, x.item)
		wantText(t, strings.TrimPrefix(x.line, " "))
		wantText(t, " "+x.line)
	}
}

// P13.3: a text of just 65536 bytes is told, one of a byte more is not.
func TestPrintLong(t *testing.T) {
	for n := 65500; n < 65600; n++ {
		l := filled(n)
		for range 2 {
			text, e := Print(l)
			if n <= 65536 && (len(text) != n || e != api.OK) || n > 65536 && (text != "" || e != api.ErrLong) {
				t.Errorf("a text of %d bytes: %d, %d", n, len(text), e)
			}
			if e == api.OK {
				wantItems(t, text, l...)
			}
			slices.Reverse(l)
		}
	}
	if s, e := Print(slices.Repeat([]api.Item{{Kind: api.ItemData, Bytes: make([]byte, 256)}}, 4096)); s != "" || e != api.ErrLong {
		t.Errorf("4096 of 256 bytes: %d bytes, %d", len(s), e)
	}
}

// P13.3: an item that may not be is told ahead of a text that is too long, wherever it stands.
func TestPrintLongAndWrong(t *testing.T) {
	l := slices.Repeat([]api.Item{{Kind: api.ItemData, Bytes: make([]byte, 256)}}, 4096)
	l[4095] = api.Item{Kind: api.ItemData}
	if s, e := Print(l); s != "" || e != api.ErrSourceItem {
		t.Errorf("%d bytes, %d", len(s), e)
	}
}

// P13.4: a text of 65536 bytes is read, one of a byte more is not, whatever stands in it.
func TestParseLong(t *testing.T) {
	whole, _ := Print(filled(65536))
	if len(whole) != 65536 {
		t.Fatalf("%d bytes", len(whole))
	}
	wantItems(t, whole, filled(65536)...)
	for _, more := range []string{"\n", " ", ";", "a", "\x00"} {
		wantFault(t, whole+more, api.ErrLong, 0)
		wantFault(t, more+whole, api.ErrLong, 0)
	}
	for _, filler := range []string{" ", "\t", "\n", ";", "; x", "\n;", " \n"} {
		rest := strings.Repeat(filler, 65537)
		wantItems(t, rest[:65536])
		wantFault(t, rest[:65537], api.ErrLong, 0)
		wantItems(t, (fadeText + rest)[:65536], fadeItems...)
		wantFault(t, (fadeText + rest)[:65537], api.ErrLong, 0)
	}
	wantFault(t, strings.Repeat("x", 65536), api.ErrSourceText, 1)
	wantFault(t, strings.Repeat("x", 65537), api.ErrLong, 0)
	wantFault(t, "x\n"+strings.Repeat(" NOP\n", 20000), api.ErrLong, 0)
	wantFault(t, strings.Repeat("\n", 65535)+"x", api.ErrSourceText, 65536)
	wantFault(t, strings.Repeat(";", 1<<20), api.ErrLong, 0)
	wantFault(t, " data"+strings.Repeat(" 00", 21000), api.ErrSourceText, 1)
	wantFault(t, " BR"+strings.Repeat(" to a", 13000), api.ErrSourceText, 1)
	wantFault(t, strings.Repeat("a: ", 20000), api.ErrSourceText, 1)
	wantFault(t, " address "+strings.Repeat("a", 65000), api.ErrSourceText, 1)
}

// P13.4: 4096 items and one more; lines without words are no items; a line that is none is told ahead of too many items.
func TestParseTooMany(t *testing.T) {
	for _, line := range []string{" NOP\n", "a:\n", " data 00\n", " at 0000\n", " address a\n", " BR to a\n", "\n;\n\tNOP\t;\n\t\n"} {
		most := strings.Repeat(line, 4096)
		l, e, at := Parse(most)
		if len(l) != 4096 || e != api.OK || at != 0 {
			t.Errorf("4096 of %q: %d, %d, %d", line, len(l), e, at)
		}
		for _, more := range []string{"\n", " ", "\t\n", ";a", " ; a\n;"} {
			if l, e, at := Parse(most + more); len(l) != 4096 || e != api.OK || at != 0 {
				t.Errorf("4096 of %q and %q: %d, %d, %d", line, more, len(l), e, at)
			}
		}
		lines := strings.Count(most, "\n")
		wantFault(t, most+"a:", api.ErrLong, 0)
		wantFault(t, " NOP\n"+most, api.ErrLong, 0)
		wantFault(t, most+"x\n", api.ErrSourceText, lines+1)
		wantFault(t, most+" NOP\n\n data", api.ErrSourceText, lines+3)
		wantFault(t, "x\n"+most, api.ErrSourceText, 1)
	}
	wantFault(t, strings.Repeat("a:\n", 21845), api.ErrLong, 0)
	wantFault(t, strings.Repeat("a:\n", 21844)+"x", api.ErrSourceText, 21845)
}

// wrongLines are none of an item's.
var wrongLines = []string{
	// Not where it must stand.
	"NOP", "data 00", "at 0000", "address a", "LDI 05", "BR to a", " a:", "\ta:", "  a:", " \ta:",
	// No name.
	":", "::", "a::", "A:", "0:", "-:", "a", "a :", "a: :", "a:b", "a.b:", "a_b:", "abcdefghijklmnopq:", "ä:", "\x00:", "a\x00:", "a:\x00",
	" address", " address A", " address 0", " address abcdefghijklmnopq", " address 0200", " address a:", " BR to", " BR to A", " BR to a:", " BR to 0", " LBR to -", " LDI high", " LDI low", " LDI low A", " LBR to abcdefghijklmnopq",
	// Two items in one line.
	"a: NOP", "a: b:", "a:b:", " NOP NOP", " NOP a:", " LDI 05 NOP", " LDI 05 06", " at 0000 at 0000", " at 0000 NOP", " data 00 NOP", " data 00 data 00", " address a address b", " address a b", " BR to a b", " BR to a NOP", " BR ab c", " BR to to a",
	// No first word of an item.
	" nop", " Nop", " NOPE", " NO", " Data 00", " DATA 00", " dat 00", " AT 0000", " Address a", " org 0000", " 00", " ff", " to a", " high a", " -", " NOP:", " :", " \x00", " NOP\x00", " LDI\x0005",
	// Numbers that are not written as Print writes them.
	" LDI 5", " LDI 005", " LDI FF", " LDI fF", " LDI 0x05", " LDI $05", " LDI 05h", " LDI -1", " LDI +5", " LDI 100", " LDI g0", " LDI 0g", " LDI", " BR 5", " BR 0ab", " BR AB", " BR 0200", " BR", " LBR 200", " LBR 00200", " LBR FADE", " LBR 02", " LBR", " LBR 0 200",
	" GLO 0f", " GLO F", " GLO 10", " GLO 16", " GLO g", " GLO", " GLO r1", " LDN 0", " LDN 00", " OUT 0", " OUT 8", " OUT 01", " OUT", " INP 0", " INP 9", " NOP 0", " NOP 00", " IDL 0", " LDN f f",
	" at", " at 0", " at 200", " at 00200", " at 10000", " at 02FF", " at -001", " at +200", " at 0x20", " at 02 00", " at 0200:", " at a", " at gggg", " at 02\x00a",
	" data", " data 0", " data 000", " data 0001", " data F0", " data 0F", " data 0x0", " data 00,01", " data 00, 01", " data 00 1", " data 00 g0", " data 00 -1", " data +1", " data 00 a:", " data" + strings.Repeat(" 00", 257), " data" + strings.Repeat(" 00", 300),
	// A part that the form has not; no part.
	" LDI to a", " LDI all a", " LDI High a", " LDI hi a", " LDI a", " LDI abc", " BR high a", " BR low a", " BR To a", " BR all a", " BR a b", " BR loop", " LBR high a", " LBR low a", " LBR a a", " LBR TO a", " NOP to a", " NOP high a", " SEP to a", " GLO low a", " OUT to a", " INP low a", " at to a", " data to a", " data low a", " address to a", " SKP to a", " NOP low a",
	// Other white space is no blank.
	"\r", "\v", "\f", "\u00a0", "\u0085", "\u2003", "\x1f", "a:\r", " NOP\r", "\rNOP", " NOP\v", "\vNOP", " \vNOP", " LDI\r05", " LDI\f05", " LDI\u00a005", " LDI 05\u00a0", " data 00\r01", " \r", "\t\r", " at\v0000", "\u00a0NOP", "\xa0NOP", "\x85NOP", "\x00NOP",
	// Remarks of another form.
	"# a", "// a", " NOP # a", " NOP // a", " NOP : a", "' a",
}

// P13.4: lines that are none of an item, alone, behind others and ahead of them; with remarks, too.
func TestWrongLines(t *testing.T) {
	for _, line := range wrongLines {
		if _, e, at := twinParse(line); e != api.ErrSourceText || at != 1 {
			t.Errorf("%.60q: the twin says %d, %d", line, e, at)
		}
		wantFault(t, line, api.ErrSourceText, 1)
		wantFault(t, line+"\n", api.ErrSourceText, 1)
		wantFault(t, line+"\n\n NOP\n", api.ErrSourceText, 1)
		wantFault(t, line+";", api.ErrSourceText, 1)
		wantFault(t, line+" ; a\n", api.ErrSourceText, 1)
		wantFault(t, line+" \t\n", api.ErrSourceText, 1)
		wantFault(t, fadeText+line, api.ErrSourceText, 8)
		wantFault(t, fadeText+"\n\n;\n \n"+line+"\n"+fadeText, api.ErrSourceText, 12)
		wantFault(t, " NOP\n;"+line+"\n"+line+"\n"+line, api.ErrSourceText, 3)
		wantItems(t, ";"+line)
		wantItems(t, " NOP;"+line+"\n", nop)
	}
}

// P13.4: the first of several lines that are none, of whatever sort.
func TestWhichLine(t *testing.T) {
	d := uint64(1)
	for range 3000 {
		n := 1 + draw(&d, 40)
		lines := make([]string, n)
		for k := range lines {
			lines[k] = []string{" NOP", "a:", "", ";", "\t; x", " data 00", " "}[draw(&d, 7)]
		}
		first := draw(&d, n)
		lines[first] = wrongLines[draw(&d, len(wrongLines))]
		for range draw(&d, 3) {
			behind := first + draw(&d, n-first)
			lines[behind] = wrongLines[draw(&d, len(wrongLines))]
		}
		text := strings.Join(lines, "\n")
		wantFault(t, text, api.ErrSourceText, first+1)
		wantFault(t, text+"\n", api.ErrSourceText, first+1)
	}
}

// P13.4: how lines end, lines without words, blanks and tabs where they may stand.
func TestEndsAndGaps(t *testing.T) {
	a, ldi := api.Item{Kind: api.ItemLabel, Name: "a"}, api.Item{Kind: api.ItemCode, Name: "LDI", Arg: 5}
	data := api.Item{Kind: api.ItemData, Bytes: []byte{1, 0xfe}}
	high := api.Item{Kind: api.ItemCode, Name: "LDI", Label: "a", Part: api.PartHigh}
	for _, x := range []struct {
		text string
		want []api.Item
	}{
		{"", nil}, {"\n", nil}, {"\n\n\n", nil}, {" ", nil}, {"\t", nil}, {" \n", nil}, {"\t\n", nil}, {" \t \t", nil}, {"\t \n \t\n\n", nil},
		{";", nil}, {";\n", nil}, {" ;", nil}, {"\t;\n", nil}, {"; NOP", nil}, {" ; NOP\n", nil}, {";;", nil}, {"; a ; b\n;c", nil}, {";\x00\xff\r\v\n", nil}, {"; a:", nil}, {";\u2028 NOP", nil},
		{" NOP", []api.Item{nop}}, {" NOP\n", []api.Item{nop}}, {"\n NOP", []api.Item{nop}}, {"\n\n NOP\n\n", []api.Item{nop}}, {"\tNOP", []api.Item{nop}}, {" \t NOP\t \t\n", []api.Item{nop}}, {"\t\t\tNOP ", []api.Item{nop}},
		{" NOP;", []api.Item{nop}}, {" NOP;a", []api.Item{nop}}, {" NOP ;a\n", []api.Item{nop}}, {"\tNOP\t;a;b\n", []api.Item{nop}}, {" NOP; NOP", []api.Item{nop}}, {" NOP;\r\n", []api.Item{nop}}, {"; a\n NOP\n; b", []api.Item{nop}}, {" ;a\n\tNOP;b\n;c\n", []api.Item{nop}},
		{"a:", []api.Item{a}}, {"a:\n", []api.Item{a}}, {"a: ", []api.Item{a}}, {"a:\t\n", []api.Item{a}}, {"a:;", []api.Item{a}}, {"a:;b:", []api.Item{a}}, {"a: \t; b:\n", []api.Item{a}}, {"\n\na:\n", []api.Item{a}},
		{"a:\n LDI 05", []api.Item{a, ldi}}, {"a:\n\n;\n \n\tLDI\t05", []api.Item{a, ldi}}, {"a: ;x\n  LDI   05  ;y\n", []api.Item{a, ldi}}, {" LDI \t 05", []api.Item{ldi}}, {" LDI 05;6", []api.Item{ldi}},
		{" data 01 fe", []api.Item{data}}, {"\tdata\t01\tfe\t", []api.Item{data}}, {"  data  01 \t fe ; 03\n", []api.Item{data}}, {" data 01 fe;03", []api.Item{data}},
		{" LDI high a", []api.Item{high}}, {" LDI\thigh\ta", []api.Item{high}}, {"   LDI  high \t a;b", []api.Item{high}},
		{"\tat\t0200 ;", []api.Item{{Kind: api.ItemAt, Arg: 512}}}, {"  address \t a;", []api.Item{{Kind: api.ItemAddress, Label: "a"}}},
	} {
		wantItems(t, x.text, x.want...)
		if !wantText(t, x.text) {
			t.Errorf("%q: the twin does not take it", x.text)
		}
	}
}

// P13.4: names of 1, 16 and 17 bytes as they are read, with each byte at each place.
func TestNamesInTexts(t *testing.T) {
	for _, length := range []int{1, 2, 16, 17} {
		for place := range length {
			for b := range 256 {
				name := []byte(strings.Repeat("k", length))
				name[place] = byte(b)
				for _, x := range [][2]string{{"", ":"}, {" address ", ""}, {" BR to ", "\n"}, {" LDI low ", "\n NOP"}} {
					wantText(t, x[0]+string(name)+x[1])
				}
			}
		}
	}
	wantText(t, " address \n")
	wantText(t, " BR to \n")
}

// P13.4: each number of digits behind each first word, each byte among the digits.
func TestNumbersInTexts(t *testing.T) {
	words := []string{"data", "data 00", "at", "address"}
	for _, n := range allNames() {
		words = append(words, n.name)
	}
	for _, word := range words {
		for digits := range 7 {
			for _, sign := range "0123456789abcdefAFg-" {
				wantText(t, " "+word+" "+strings.Repeat(string(sign), digits))
				wantText(t, " "+word+" "+strings.Repeat("0", digits)+string(sign))
			}
		}
	}
	for _, text := range []string{" at 1234", " data 12 34", " LDI 12", " LBR 1234", " GLO 1", " INP 1"} {
		for place := range len(text) {
			for b := range 256 {
				wantText(t, text[:place]+string([]byte{byte(b)})+text[place+1:])
				wantText(t, text[:place]+string([]byte{byte(b)})+text[place:])
			}
		}
	}
}

// P13.4: each instruction with each part of a label, and with words that are none.
func TestPartsInTexts(t *testing.T) {
	for _, n := range allNames() {
		for _, part := range []string{"to", "high", "low", "all", "none", "To", "HIGH", "t", "00", "0000", "0"} {
			for _, label := range []string{"", " a", " fade", " ff", " A", " abcdefghijklmnop", " abcdefghijklmnopq", " a b", " 00"} {
				wantText(t, " "+n.name+" "+part+label)
				wantText(t, " "+n.name+part+label)
				wantText(t, n.name+" "+part+label)
			}
		}
	}
}

// randomItem is any item that may be.
func randomItem(d *uint64) api.Item {
	const first, behind = "abcdefghijklmnopqrstuvwxyz", "abcdefghijklmnopqrstuvwxyz0123456789-"
	name := string(first[draw(d, len(first))])
	for range draw(d, 16) {
		name += string(behind[draw(d, len(behind))])
	}
	switch draw(d, 6) {
	case 0:
		return api.Item{Kind: api.ItemLabel, Name: name}
	case 1:
		b := make([]byte, 1+draw(d, []int{4, 20, 256}[draw(d, 3)]))
		for k := range b {
			b[k] = byte(draw(d, 256))
		}
		return api.Item{Kind: api.ItemData, Bytes: b}
	case 2:
		return api.Item{Kind: api.ItemAt, Arg: draw(d, 65536)}
	case 3:
		return api.Item{Kind: api.ItemAddress, Label: name}
	}
	all := allNames()
	n := all[draw(d, len(all))]
	i := api.Item{Kind: api.ItemCode, Name: n.name}
	switch {
	case n.size == 1 || draw(d, 2) == 0:
		i.Arg = n.least + draw(d, n.most-n.least+1)
	case n.form == api.FormByte:
		i.Label, i.Part = name, []api.Part{api.PartHigh, api.PartLow}[draw(d, 2)]
	default:
		i.Label, i.Part = name, api.PartAll
	}
	return i
}

func randomItems(d *uint64, most int) []api.Item {
	l := make([]api.Item, draw(d, most))
	for k := range l {
		l[k] = randomItem(d)
	}
	return l
}

// P13.5: any items, there and back.
func TestThereAndBack(t *testing.T) {
	d := uint64(2)
	for range 1500 {
		l := randomItems(&d, 60)
		if e, n := Check(l); e != api.OK || n != 0 {
			t.Fatalf("Check of %s: %d, %d", show(l), e, n)
		}
		wantThereAndBack(t, l)
	}
}

// dressed is a text of Print's with remarks, blanks, tabs and lines that say nothing laid about its words.
func dressed(d *uint64, text string) string {
	fill := func(least int) string {
		var s strings.Builder
		for range least + draw(d, 3) {
			s.WriteByte(" \t"[draw(d, 2)])
		}
		return s.String()
	}
	remark := func() string {
		return []string{"", "", ";", "; a:", ";;\t", "; NOP", ";\r", ";\xff\x00"}[draw(d, 8)]
	}
	var s strings.Builder
	for line := range strings.Lines(text) {
		for range draw(d, 2) {
			s.WriteString(fill(0) + remark() + "\n")
		}
		if line[0] == ' ' {
			s.WriteString(fill(1))
		}
		for n, word := range strings.Fields(line) {
			if n > 0 {
				s.WriteString(fill(1))
			}
			s.WriteString(word)
		}
		s.WriteString(fill(0) + remark() + "\n")
	}
	s.WriteString(fill(0) + remark())
	return s.String()
}

// P13.4, P13.5, P13.6: remarks, blanks and tabs change nothing; what is read is printed, read and printed again as the same text.
func TestDressed(t *testing.T) {
	d := uint64(3)
	for range 1500 {
		l := randomItems(&d, 30)
		text := dressed(&d, twinText(l))
		if len(text) > 65536 {
			continue
		}
		wantItems(t, text, l...)
		once, e := Print(l)
		if e != api.OK {
			t.Fatalf("Print: %d", e)
		}
		again, _, _ := Parse(once)
		if twice, e := Print(again); twice != once || e != api.OK {
			t.Fatalf("printed again: %q, %d; want %q", twice, e, once)
		}
	}
}

// P13.6: remarks, blanks and tabs change nothing of what is refused either, but the line's number.
func TestDressedWrong(t *testing.T) {
	d := uint64(4)
	for _, line := range wrongLines {
		// What is no blank to the chapter, or is one at the front, is not for dressed.
		if strings.ContainsAny(line, "\r\v\f\u0085\u00a0\u2003") || line[0] == '\t' {
			continue
		}
		for range 20 {
			ahead, own := dressed(&d, fadeText), dressed(&d, line+"\n")
			if _, e, _ := Parse(ahead); e != api.OK {
				t.Fatalf("%q: %d", ahead, e)
			}
			text := ahead + "\n" + own
			l, e, at := Parse(text)
			if _, _, want := twinParse(text); len(l) != 0 || e != api.ErrSourceText || at != want || at <= strings.Count(ahead, "\n")+1 {
				t.Fatalf("%q: %d, %d; want line %d", text, e, at, want)
			}
		}
	}
}

// P13.4, P13.5: texts with a few bytes changed, against the twin; what is taken is printed, read and printed again as the same text.
func TestParseSweep(t *testing.T) {
	d := uint64(5)
	const bytes = " \t\n;:aAfz09-to\r\x00\xff"
	taken, refused := 0, 0
	for range 20000 {
		text := []byte(twinText(randomItems(&d, 4)))
		for range draw(&d, 3) {
			at := draw(&d, len(text)+1)
			b := bytes[draw(&d, len(bytes))]
			switch {
			case draw(&d, 2) == 0 || at == len(text):
				text = slices.Insert(text, at, b)
			case draw(&d, 2) == 0:
				text[at] = b
			default:
				text = slices.Delete(text, at, at+1)
			}
		}
		if !wantText(t, string(text)) {
			refused++
			continue
		}
		taken++
		l, _, _ := Parse(string(text))
		wantThereAndBack(t, l)
	}
	if taken < 4000 || refused < 4000 {
		t.Errorf("%d taken, %d refused", taken, refused)
	}
}

// P13.4: any bytes at all, and any words in any order.
func TestParseAnything(t *testing.T) {
	d := uint64(6)
	words := []string{" ", " ", "\t", "\n", "\n ", ";", ":", "a", "a:", "fade", "to", "high", "low", "at", "data", "address", "NOP", "LDI", "BR", "LBR", "GLO", "LDN", "OUT", "0", "00", "f", "ff", "0200", "fade:"}
	for range 20000 {
		var s strings.Builder
		for range draw(&d, 14) {
			s.WriteString(words[draw(&d, len(words))])
		}
		wantText(t, s.String())
	}
	for range 5000 {
		b := make([]byte, draw(&d, 30))
		for k := range b {
			b[k] = byte(draw(&d, 256))
		}
		wantText(t, string(b))
	}
	for b := range 256 {
		for _, other := range " \t\n;:aN\r" {
			wantText(t, string([]byte{byte(b), byte(other)}))
			wantText(t, string([]byte{byte(other), byte(b)}))
		}
	}
}
