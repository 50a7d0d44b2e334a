package code

import (
	"strconv"
	"strings"
	"testing"

	"vesper/api"
)

// The document's table of instructions: ops (one, or from .. to), name, form.
const instructions = `
00 IDL none
01..0f LDN reg
10..1f INC reg
20..2f DEC reg
30 BR short
31 BQ short
32 BZ short
33 BDF short
34 B1 short
35 B2 short
36 B3 short
37 B4 short
38 SKP none
39 BNQ short
3a BNZ short
3b BNF short
3c BN1 short
3d BN2 short
3e BN3 short
3f BN4 short
40..4f LDA reg
50..5f STR reg
60 IRX none
61..67 OUT port
68 NUL none
69..6f INP port
70 RET none
71 DIS none
72 LDXA none
73 STXD none
74 ADC none
75 SDB none
76 SHRC none
77 SMB none
78 SAV none
79 MARK none
7a REQ none
7b SEQ none
7c ADCI byte
7d SDBI byte
7e SHLC none
7f SMBI byte
80..8f GLO reg
90..9f GHI reg
a0..af PLO reg
b0..bf PHI reg
c0 LBR long
c1 LBQ long
c2 LBZ long
c3 LBDF long
c4 NOP none
c5 LSNQ none
c6 LSNZ none
c7 LSNF none
c8 LSKP none
c9 LBNQ long
ca LBNZ long
cb LBNF long
cc LSIE none
cd LSQ none
ce LSZ none
cf LSDF none
d0..df SEP reg
e0..ef SEX reg
f0 LDX none
f1 OR none
f2 AND none
f3 XOR none
f4 ADD none
f5 SD none
f6 SHR none
f7 SM none
f8 LDI byte
f9 ORI byte
fa ANI byte
fb XRI byte
fc ADI byte
fd SDI byte
fe SHL none
ff SMI byte
`

// The document's table of uses: ops, the register that points, what else holds (r read, w write, o own).
const usesOfTheBus = `
00 0 r
01..0f N r
10..1f N -
20..2f N -
30..3f P r
40..4f N r
50..5f N wo
60..67 X r
68 X -
69..6f X w
70..72 X r
73 X wo
74..75 X r
76 X -
77 X r
78 X wo
79 2 wo
7a..7b P -
7c..7d P r
7e P -
7f P r
80..8f N o
90..9f N o
a0..af N o
b0..bf N o
c0..cf P r
d0..df N o
e0..ef N o
f0..f5 X r
f6 X -
f7 X r
f8..fd P r
fe P -
ff P r
`

// documented goes through the ops of such a table; that it has all of them, each once, is seen to.
func documented(t *testing.T, table string, visit func(op byte, second, third string)) {
	t.Helper()
	next := 0
	for line := range strings.Lines(strings.TrimSpace(table)) {
		words := strings.Fields(line)
		from, to, many := strings.Cut(words[0], "..")
		if !many {
			to = from
		}
		first, _ := strconv.ParseInt(from, 16, 0)
		last, _ := strconv.ParseInt(to, 16, 0)
		if int(first) != next || last < first {
			t.Fatalf("%s stands where %02x must be", words[0], next)
		}
		for n := first; n <= last; n++ {
			visit(byte(n), words[1], words[2])
		}
		next = int(last) + 1
	}
	if next != 256 {
		t.Fatalf("the table has %d ops", next)
	}
}

// form is a form as the document writes it, with the bytes, the digits, and the least and the greatest operand that it says.
type form struct {
	form                       api.Form
	bytes, digits, least, most int
}

func formOf(word string) form {
	return map[string]form{
		"none":  {api.FormNone, 1, 0, 0, 0},
		"reg":   {api.FormReg, 1, 1, 0, 15},
		"port":  {api.FormPort, 1, 1, 1, 7},
		"byte":  {api.FormByte, 2, 2, 0, 255},
		"short": {api.FormShort, 2, 2, 0, 255},
		"long":  {api.FormLong, 3, 4, 0, 65535},
	}[word]
}

// named is an instruction's name with all that the document says of it.
type named struct {
	name string
	op   byte // the first one
	form
}

// everyName is each name once, by the order of its first op.
func everyName(t *testing.T) []named {
	t.Helper()
	var all []named
	documented(t, instructions, func(op byte, name, word string) {
		if len(all) > 0 && all[len(all)-1].name == name {
			return
		}
		f := formOf(word)
		if name == "LDN" {
			f.least = 1
		}
		all = append(all, named{name, op, f})
	})
	return all
}

// P2.1: all 256 ops.
func TestInfoOfAllOps(t *testing.T) {
	documented(t, instructions, func(op byte, name, word string) {
		f := formOf(word)
		want := api.Info{Name: name, Form: f.form, Bytes: f.bytes, Cycles: 2}
		if op >= 0xc0 && op <= 0xcf {
			want.Cycles = 3
		}
		if got := Info(op); got != want {
			t.Errorf("Info(%02x) = %v, wanted %v", op, got, want)
		}
	})
}

// P2.1: all names, and what each of its ops is.
func TestFindOfAllNames(t *testing.T) {
	documented(t, instructions, func(op byte, name, word string) {
		if got, ok := Find(name); !ok || got != Info(op) {
			t.Errorf("Find(%s) = %v, %v, but Info(%02x) = %v", name, got, ok, op, Info(op))
		}
	})
	if n := len(everyName(t)); n != 80 {
		t.Errorf("%d names are looked at", n)
	}
}

// namesThatAreNone have small letters, signs too many or too few, or stand in other books.
func namesThatAreNone(t *testing.T) []string {
	t.Helper()
	none := []string{
		"", " ", "inp", "Inp", "iNP", "INp", "nop", "br", "LDN 1", "NOP ", " NOP", "NOP\n", "\tNOP", "NOP\x00", "B", "B0", "B5", "BN", "BN0", "BN5",
		"LD", "L", "LBRR", "NOPE", "MOV", "JMP", "BPZ", "BGE", "BM", "BL", "NBR", "NLBR", "LSNE", "LDNA", "INC0", "R0", "00", "c4", "C4", "\xff", "É", "ＮＯＰ",
		"SKIP", "LSK", "LSKPS", "MAR", "MARKS", "XORI", "ANDI", "SUB", "SDBIX",
	}
	for _, n := range everyName(t) {
		none = append(none, strings.ToLower(n.name), n.name+" ", " "+n.name, n.name+"_", n.name+n.name, n.name+" 1", "x"+n.name)
	}
	return none
}

// P2.1: of no name nothing.
func TestFindOfNoName(t *testing.T) {
	for _, name := range namesThatAreNone(t) {
		if got, ok := Find(name); ok || got != (api.Info{}) {
			t.Errorf("Find(%q) = %v, %v", name, got, ok)
		}
	}
}

// P2.1: of all texts of up to four signs out of those that names have, just the names are found.
func TestFindOfShortTexts(t *testing.T) {
	is := map[string]bool{}
	for _, n := range everyName(t) {
		is[n.name] = true
	}
	signs := ""
	for n := range is {
		for _, r := range n {
			if !strings.ContainsRune(signs, r) {
				signs += string(r)
			}
		}
	}
	found := 0
	var grow func(text string)
	grow = func(text string) {
		if _, ok := Find(text); ok != is[text] {
			t.Errorf("Find(%q): %v", text, ok)
		} else if ok {
			found++
		}
		if len(text) == 3 {
			return
		}
		for _, r := range signs {
			grow(text + string(r))
		}
	}
	grow("")
	for n := range is {
		if len(n) == 4 {
			found++
		}
		if len(n) > longestName {
			t.Errorf("%s is longer than a name may be", n)
		}
	}
	if found != len(is) {
		t.Errorf("%d of %d names were found", found, len(is))
	}
}

// P2.2: all 256 ops in the first execute cycle, and in the second one.
func TestBusOfAllOps(t *testing.T) {
	points := map[string]api.Point{"N": api.PointN, "X": api.PointX, "P": api.PointP, "2": api.Point2, "0": api.Point0}
	documented(t, usesOfTheBus, func(op byte, point, what string) {
		want := api.Use{Point: points[point], Read: strings.Contains(what, "r"), Write: strings.Contains(what, "w"), Own: strings.Contains(what, "o")}
		switch {
		case op >= 0x61 && op <= 0x67:
			want.Port = op - 0x60
		case op >= 0x69 && op <= 0x6f:
			want.Port = op - 0x68
		}
		if got := Bus(op, false); got != want {
			t.Errorf("Bus(%02x, false) = %v, wanted %v", op, got, want)
		}
		if op < 0xc0 || op > 0xcf {
			want = api.Use{}
		}
		if got := Bus(op, true); got != want {
			t.Errorf("Bus(%02x, true) = %v, wanted %v", op, got, want)
		}
	})
}

// P2.1, P2.2: the document's examples.
func TestExamplesOfInfoAndBus(t *testing.T) {
	for _, x := range []struct {
		op            byte
		name          string
		form          api.Form
		bytes, cycles int
	}{
		{0x00, "IDL", api.FormNone, 1, 2}, {0x05, "LDN", api.FormReg, 1, 2}, {0x38, "SKP", api.FormNone, 1, 2}, {0xc4, "NOP", api.FormNone, 1, 3}, {0xc8, "LSKP", api.FormNone, 1, 3},
		{0x30, "BR", api.FormShort, 2, 2}, {0xc0, "LBR", api.FormLong, 3, 3}, {0xf8, "LDI", api.FormByte, 2, 2},
	} {
		if got := Info(x.op); got != (api.Info{Name: x.name, Form: x.form, Bytes: x.bytes, Cycles: x.cycles}) {
			t.Errorf("Info(%02x) = %v", x.op, got)
		}
	}
	if got, ok := Find("INP"); !ok || got != (api.Info{Name: "INP", Form: api.FormPort, Bytes: 1, Cycles: 2}) {
		t.Errorf("Find(INP) = %v, %v", got, ok)
	}
	for _, x := range []struct {
		op     byte
		second bool
		want   api.Use
	}{
		{0x64, false, api.Use{Point: api.PointX, Read: true, Port: 4}},
		{0x6c, false, api.Use{Point: api.PointX, Write: true, Port: 4}},
		{0x64, true, api.Use{}},
		{0xc0, true, api.Use{Point: api.PointP, Read: true}},
	} {
		if got := Bus(x.op, x.second); got != x.want {
			t.Errorf("Bus(%02x, %v) = %v", x.op, x.second, got)
		}
	}
}

// P2.7: nothing is read and written in one cycle; who writes puts the byte there itself, but INP; only OUT and INP have a port.
func TestWhatFollowsOfTheBus(t *testing.T) {
	for n := range 256 {
		op := byte(n)
		name := Info(op).Name
		for _, second := range []bool{false, true} {
			u := Bus(op, second)
			if u.Read && u.Write {
				t.Errorf("%02x reads and writes", op)
			}
			if u.Write && u.Own == (name == "INP") {
				t.Errorf("%02x %s writes, own is %v", op, name, u.Own)
			}
			if (u.Port != 0) != (!second && (name == "OUT" || name == "INP")) {
				t.Errorf("%02x %s has port %d, second cycle: %v", op, name, u.Port, second)
			}
			if u.Port > 7 {
				t.Errorf("%02x has port %d", op, u.Port)
			}
		}
	}
}

// P2.7: a name of several ops is of the form reg or port; and all ops of a name have one Info (P2.1).
func TestWhatFollowsOfTheNames(t *testing.T) {
	ops := map[string][]byte{}
	for n := range 256 {
		name := Info(byte(n)).Name
		ops[name] = append(ops[name], byte(n))
	}
	for name, list := range ops {
		info := Info(list[0])
		for _, op := range list {
			if Info(op) != info {
				t.Errorf("%s: Info(%02x) = %v, Info(%02x) = %v", name, list[0], info, op, Info(op))
			}
		}
		want := map[api.Form]int{api.FormReg: 16, api.FormPort: 7}[info.Form]
		if want == 0 {
			want = 1
		}
		if name == "LDN" {
			want = 15
		}
		if len(list) != want {
			t.Errorf("%s belongs to %x", name, list)
		}
	}
}
