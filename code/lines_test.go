package code

import (
	"fmt"
	"strings"
	"testing"

	"vesper/api"
)

// lineOf is what the document says of an instruction's line.
func lineOf(n named, arg int) string {
	if n.digits == 0 {
		return n.name
	}
	return fmt.Sprintf("%s %0*x", n.name, n.digits, arg)
}

// P2.5, P2.6: each instruction has its line, and comes back from it.
func TestEveryInstructionAsLine(t *testing.T) {
	everyInstruction(t, func(n named, i api.Instr) {
		if n.digits == 4 && i.Arg%37 > 1 && i.Arg < 0xfff0 {
			return
		}
		want := lineOf(n, i.Arg)
		if got, e := Print(i); got != want || e != api.OK {
			t.Fatalf("Print(%v) = %q, %d, wanted %q", i, got, e, want)
		}
		if got, e := Parse(want); got != i || e != api.OK {
			t.Fatalf("Parse(%q) = %v, %d, wanted %v", want, got, e, i)
		}
	})
}

// P2.5: the document's examples.
func TestLineExamples(t *testing.T) {
	for _, x := range []struct {
		i    api.Instr
		line string
	}{
		{api.Instr{Name: "LBR", Arg: 0x8146}, "LBR 8146"}, {api.Instr{Name: "GLO", Arg: 15}, "GLO f"}, {api.Instr{Name: "INP", Arg: 3}, "INP 3"}, {api.Instr{Name: "BR", Arg: 5}, "BR 05"},
		{api.Instr{Name: "NOP"}, "NOP"}, {api.Instr{Name: "LDI", Arg: 0xab}, "LDI ab"}, {api.Instr{Name: "LBDF"}, "LBDF 0000"}, {api.Instr{Name: "OUT", Arg: 7}, "OUT 7"},
	} {
		if s, e := Print(x.i); s != x.line || e != api.OK {
			t.Errorf("Print(%v) = %q, %d", x.i, s, e)
		}
		if i, e := Parse(x.line); i != x.i || e != api.OK {
			t.Errorf("Parse(%q) = %v, %d", x.line, i, e)
		}
	}
}

func refused(t *testing.T, line string, want api.Errno) {
	t.Helper()
	if i, e := Parse(line); i != (api.Instr{}) || e != want {
		t.Errorf("Parse(%q) = %v, %d, wanted %d", line, i, e, want)
	}
}

// P2.5: lines of each name with too few or too many digits, with capital ones, with blanks too many or none.
func TestParseOfWrongOperands(t *testing.T) {
	for _, n := range everyName(t) {
		if n.digits == 0 {
			for _, behind := range []string{"", "0", "1", "00", "0000", " ", "x", "  0"} {
				refused(t, n.name+" "+behind, api.ErrCodeArg)
			}
			continue
		}
		refused(t, n.name, api.ErrCodeArg)
		right := lineOf(n, n.most)[len(n.name)+1:]
		for size := range 11 {
			if size != n.digits {
				refused(t, n.name+" "+strings.Repeat("1", size), api.ErrCodeArg)
				refused(t, n.name+" "+strings.Repeat("0", size), api.ErrCodeArg)
			}
		}
		for _, behind := range []string{" " + right, right + " ", "0" + right, right + "0", "x" + right, right + "h", "0x" + right, "-" + right, "+" + right, "#" + right, right + "\n", right + "\x00", "\t" + right, right + " " + right, strings.Repeat(" ", n.digits), strings.Repeat("g", n.digits), strings.Repeat("F", n.digits), strings.Repeat("/", n.digits), strings.Repeat("\xff", n.digits)} {
			refused(t, n.name+" "+behind, api.ErrCodeArg)
		}
		if n.digits > 1 {
			refused(t, n.name+" "+right[1:]+"A", api.ErrCodeArg)
			refused(t, n.name+" "+right[1:]+" ", api.ErrCodeArg)
		}
	}
}

// P2.5: what no name stands ahead of the first blank of.
func TestParseOfNoName(t *testing.T) {
	for _, line := range []string{
		"", " ", "  ", " NOP", " NOP 1", "nop", "br 05", "Br 05", "NOPE", "NOP\t", "NOP\n", "BR\t05", "BR05", "BR,05", "LBR8146", "LBR:8146", "GLOf", "LDI\u00a005",
		"X 05", "BRX 05", "LDIX 05", "LBDFX 0000", "\x00", "\xff 05", "É 05", "BR\x00 05", strings.Repeat("N", 70000), strings.Repeat("N", 70000) + " 05", "LBDFLBDF LBDF",
	} {
		refused(t, line, api.ErrCodeName)
	}
	for _, name := range namesThatAreNone(t) {
		if !strings.Contains(name, " ") {
			refused(t, name, api.ErrCodeName)
			refused(t, name+" ", api.ErrCodeName)
			refused(t, name+" 05", api.ErrCodeName)
		}
	}
}

// P2.5: the document's lines that are none, and the names whose least operand is 1.
func TestParseExamplesThatAreNone(t *testing.T) {
	for _, line := range []string{"LBR 146", "NOP ", "GLO F", "LDN 0", "OUT 0", "OUT 8", "OUT f", "INP 0", "INP 8", "INP 9", "GLO", "GLO ", "GLO 10", "GLO g", "LDI 5", "LDI 005", "LDI  05", "LDI 05 ", "LDI AB", "LBR 08146", "LBR 8146 ", "LBR  8146", "LBR 814", "LBR 81 46", "BR 5", "BR 105"} {
		refused(t, line, api.ErrCodeArg)
	}
	refused(t, " NOP", api.ErrCodeName)
}

// P2.6: of every line of a name and up to two signs behind a blank, Parse takes just those that Print writes.
func TestParseTakesWhatPrintWrites(t *testing.T) {
	written := map[string]api.Instr{}
	everyInstruction(t, func(n named, i api.Instr) {
		if n.digits < 4 {
			s, _ := Print(i)
			written[s] = i
		}
	})
	signs := []string{"", "0", "1", "7", "8", "9", "a", "f", "g", "A", "F", " ", "/", ":", "`", "@"}
	for _, n := range everyName(t) {
		for _, blank := range []string{"", " "} {
			for _, first := range signs {
				for _, second := range signs {
					line := n.name + blank + first + second
					i, e := Parse(line)
					if want, ok := written[line]; ok != (e == api.OK) || i != want {
						t.Errorf("Parse(%q) = %v, %d", line, i, e)
					}
				}
			}
		}
	}
}
