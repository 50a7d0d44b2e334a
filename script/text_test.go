package script

import (
	"math/bits"
	"slices"
	"strings"
	"testing"

	"vesper/api"
)

// full is a span that has everything.
var full = api.Span{Cycles: 1048576, Keys: 0xbeef, Tape: true, Flag: true, DMAIn: true, DMAOut: true, Interrupt: true, Clear: true, Wait: true, Bus: 0xa7}

const fullLine = "1048576 keys beef tape flag in out int clear wait bus a7\n"

// spanLines are spans and their lines: each word by itself, all of them, edges of numbers.
var spanLines = []struct {
	span api.Span
	line string
}{
	{api.Span{Cycles: 1}, "1\n"},
	{api.Span{Cycles: 9}, "9\n"},
	{api.Span{Cycles: 10}, "10\n"},
	{api.Span{Cycles: 1000000}, "1000000\n"},
	{api.Span{Cycles: 1048576}, "1048576\n"},
	{api.Span{Cycles: 2, Keys: 1}, "2 keys 0001\n"},
	{api.Span{Cycles: 2, Keys: 0x8000}, "2 keys 8000\n"},
	{api.Span{Cycles: 2, Keys: 0xffff}, "2 keys ffff\n"},
	{api.Span{Cycles: 2, Keys: 0x0c0d}, "2 keys 0c0d\n"},
	{api.Span{Cycles: 3, Tape: true}, "3 tape\n"},
	{api.Span{Cycles: 4, Flag: true}, "4 flag\n"},
	{api.Span{Cycles: 5, DMAIn: true}, "5 in\n"},
	{api.Span{Cycles: 6, DMAOut: true}, "6 out\n"},
	{api.Span{Cycles: 7, Interrupt: true}, "7 int\n"},
	{api.Span{Cycles: 8, Clear: true}, "8 clear\n"},
	{api.Span{Cycles: 9, Wait: true}, "9 wait\n"},
	{api.Span{Cycles: 11, Bus: 1}, "11 bus 01\n"},
	{api.Span{Cycles: 11, Bus: 0x10}, "11 bus 10\n"},
	{api.Span{Cycles: 11, Bus: 0xff}, "11 bus ff\n"},
	{api.Span{Cycles: 3, Keys: 2, Clear: true, Bus: 0xff}, "3 keys 0002 clear bus ff\n"},
	{api.Span{Cycles: 1, DMAIn: true, DMAOut: true, Interrupt: true}, "1 in out int\n"},
	{api.Span{Cycles: 120, Tape: true, Wait: true}, "120 tape wait\n"},
	{full, fullLine},
}

// P7.6, P7.7: of each span its line, of each line its span.
func TestLines(t *testing.T) {
	for _, x := range spanLines {
		if s, e := Print([]api.Span{x.span}); s != x.line || e != api.OK {
			t.Errorf("Print of %+v: %q, %d", x.span, s, e)
		}
		if l, e, at := Parse(x.line); e != api.OK || at != 0 || !slices.Equal(l, []api.Span{x.span}) {
			t.Errorf("Parse of %q: %+v, %d, %d", x.line, l, e, at)
		}
	}
}

// P7.6 to P7.8: all lines together, in that order and in the other one.
func TestManyLines(t *testing.T) {
	var l []api.Span
	text := ""
	for i := range spanLines {
		for _, x := range []int{i, len(spanLines) - 1 - i} {
			if spanLines[x].span.Cycles < 1000 {
				l = append(l, spanLines[x].span)
				text += spanLines[x].line
			}
		}
	}
	before := slices.Clone(l)
	if s, e := Print(l); s != text || e != api.OK {
		t.Errorf("Print: %q, %d", s, e)
	}
	if !slices.Equal(l, before) {
		t.Errorf("Print: the script is now %v", l)
	}
	if got, e, at := Parse(text); e != api.OK || at != 0 || !slices.Equal(got, l) {
		t.Errorf("Parse: %v, %d, %d", got, e, at)
	}
}

// P7.6 to P7.8: no spans are the empty text.
func TestNoLines(t *testing.T) {
	if s, e := Print(nil); s != "" || e != api.OK {
		t.Errorf("Print of none: %q, %d", s, e)
	}
	if l, e, at := Parse(""); len(l) != 0 || e != api.OK || at != 0 {
		t.Errorf("Parse of the empty text: %v, %d, %d", l, e, at)
	}
}

// P7.6 to P7.8: every row of keys, every byte on the bus, every choice of words, there and back.
func TestEveryWorth(t *testing.T) {
	for n := range 65536 {
		s := api.Span{Cycles: 1 + n*15, Keys: uint16(n), Bus: byte(n * 7)}
		k := bits.Reverse16(uint16(n)) >> 9
		s.Tape, s.Flag, s.DMAIn, s.DMAOut = k&1 != 0, k&2 != 0, k&4 != 0, k&8 != 0
		s.Interrupt, s.Clear, s.Wait = k&16 != 0, k&32 != 0, k&64 != 0
		text, e := Print([]api.Span{s})
		if e != api.OK || text != twinLine(s) {
			t.Fatalf("Print of %+v: %q, %d", s, text, e)
		}
		if l, e, at := Parse(text); e != api.OK || at != 0 || len(l) != 1 || l[0] != s {
			t.Fatalf("Parse of %q: %+v, %d, %d", text, l, e, at)
		}
	}
}

// P7.6: a text of just 65536 bytes is told, one of a byte more is not, wherever its long line stands.
func TestPrintLong(t *testing.T) {
	for _, place := range []int{0, 1, 2000, 3854} {
		// 3854 lines of 17 bytes, and one that is longer.
		l := slices.Repeat([]api.Span{{Cycles: 100, Keys: 0xff, DMAIn: true}}, 3855)
		l[place].Cycles = 1000
		text, e := Print(l)
		if len(text) != 65536 || e != api.OK {
			t.Errorf("%d bytes, %d", len(text), e)
		}
		if back, e, at := Parse(text); e != api.OK || at != 0 || !slices.Equal(back, l) {
			t.Errorf("Parse of 65536 bytes: %d spans, %d, %d", len(back), e, at)
		}
		l[place].Cycles = 10000
		if s, e := Print(l); s != "" || e != api.ErrLong {
			t.Errorf("a byte more: %d bytes, %d", len(s), e)
		}
	}
	long := full
	long.Cycles = 1000
	if s, e := Print(slices.Repeat([]api.Span{long}, 4096)); s != "" || e != api.ErrLong {
		t.Errorf("4096 full lines: %d bytes, %d", len(s), e)
	}
	if s, e := Print(row(4096, 1000)); len(s) != 5*4096 || e != api.OK {
		t.Errorf("4096 short lines: %d bytes, %d", len(s), e)
	}
}

func wantFault(t *testing.T, text string, want api.Errno, line int) {
	t.Helper()
	if l, e, at := Parse(text); len(l) != 0 || e != want || at != line {
		t.Errorf("Parse of %.60q (%d bytes): %d spans, %d, %d; want %d, %d", text, len(text), len(l), e, at, want, line)
	}
}

// P7.7: lines that are none of a span, alone, behind another line and ahead of one.
func TestWrongLines(t *testing.T) {
	for _, line := range []string{
		"", " ", "  ", "0", "00", "01", "007", "0x1", "-1", "+1", "1.", "1e3", "1_000", "a", "x", "tape", "keys 0001", "bus ff",
		"1048577", "2000000", "9999999", "10485760", "4194304", "99999999999999999999", "9223372036854775807", "9223372036854775808", "18446744073709551617", "4294967297", "-9223372036854775808",
		" 1", "1 ", "1  ", "  1", "\t1", "1\t", "1\ttape", "1\r", "1 tape\r", "1\x00", "1\v", "1\f", "1\u00a0", "１", "١", "1\xff",
		"1  tape", "1 tape ", " 1 tape", "1 tape  flag", "1 keys 0001 ", "1 bus ff ", "1  keys 0001", "1 keys  0001", "1 keys 0001  bus ff",
		"1 1", "1 tape 1", "1 2 tape", "1 ffff", "1 keys", "1 keys ", "1 bus", "1 bus ", "1 keys bus ff", "1 keys tape", "1 keys 0001 bus", "1 bus keys 0001",
		"1 keys 0000", "1 keys 0000 tape", "1 bus 00", "1 tape bus 00", "1 keys 0000 bus 00", "1 keys 0", "1 keys 1", "1 keys 01", "1 keys 001", "1 keys 00001", "1 keys 10000", "1 keys 00000000", "1 keys 12345678", "1 keys 123456789",
		"1 keys 000A", "1 keys BEEF", "1 keys Beef", "1 keys 000g", "1 keys +001", "1 keys -001", "1 keys 0x01", "1 keys 000 1", "1 keys 00\t1", "1 keys 1é1", "1 keys \xff\xff\xff\xff",
		"1 bus f", "1 bus 1", "1 bus 0ff", "1 bus fff", "1 bus FF", "1 bus fF", "1 bus F0", "1 bus 0g", "1 bus +1", "1 bus -1", "1 bus é", "1 bus 0", "1 bus 000",
		"1 flag tape", "1 in tape", "1 out in", "1 int out", "1 clear int", "1 wait clear", "1 bus ff wait", "1 tape keys 0001", "1 bus ff keys 0001", "1 bus ff tape", "1 wait tape flag",
		"1 tape tape", "1 flag flag", "1 in in", "1 out out", "1 int int", "1 clear clear", "1 wait wait", "1 keys 0001 keys 0001", "1 keys 0001 keys 0002", "1 bus ff bus ff", "1 tape flag tape",
		"1 Tape", "1 TAPE", "1 tap", "1 tapes", "1 dmain", "1 interrupt", "1 i", "1 inn", "1 ef4", "1 reset", "1 pause", "1 key 0001", "1 Keys 0001", "1 what", "1 tape what", "1 what tape", "1 \"tape\"", "1,tape", "1;", "1 tape;",
		"1tape", "1keys 0001", "1 keys0001", "1 keys 0001tape", "1 tapeflag", "1 busff", "1 bus fftape", "tape 1",
	} {
		wantFault(t, line+"\n", api.ErrScriptText, 1)
		wantFault(t, "1\n"+line+"\n", api.ErrScriptText, 2)
		wantFault(t, line+"\n1\n", api.ErrScriptText, 1)
		wantFault(t, "12 tape\n3\n"+line+"\n0\n1\n", api.ErrScriptText, 3)
		if line != "" {
			wantFault(t, line, api.ErrScriptText, 1)
			wantFault(t, "1\n2\n"+line, api.ErrScriptText, 3)
		}
	}
}

// P7.7: what stands behind the last line feed is a line, too; it is none of a span.
func TestNoLineFeed(t *testing.T) {
	for _, x := range spanLines {
		bare := strings.TrimSuffix(x.line, "\n")
		wantFault(t, bare, api.ErrScriptText, 1)
		wantFault(t, "1\n"+bare, api.ErrScriptText, 2)
		wantFault(t, "1\n1\n1\n"+bare, api.ErrScriptText, 4)
		if l, e, at := Parse("1\n" + x.line); len(l) != 2 || e != api.OK || at != 0 {
			t.Errorf("Parse of 1 and %q: %d spans, %d, %d", x.line, len(l), e, at)
		}
	}
	wantFault(t, "\n", api.ErrScriptText, 1)
	wantFault(t, "\n\n", api.ErrScriptText, 1)
	wantFault(t, "1\n\n", api.ErrScriptText, 2)
	wantFault(t, "1\n\n1\n", api.ErrScriptText, 2)
}

// P7.7: too many bytes, too many lines, whatever stands in them.
func TestParseLong(t *testing.T) {
	for _, text := range []string{
		strings.Repeat("1", 65537), strings.Repeat(" ", 65537), strings.Repeat("x", 100000), strings.Repeat("\n", 65537), strings.Repeat("1\n", 4097),
		strings.Repeat("\n", 4097), strings.Repeat("\n", 65536), strings.Repeat("x\n", 4097), strings.Repeat("1\n", 4096) + "1", strings.Repeat("1\n", 4096) + " ", strings.Repeat("1\n", 4096) + "\n",
		strings.Repeat("1048576\n", 4097), strings.Repeat(fullLine, 1150), strings.Repeat("1 tape\n", 1) + strings.Repeat("1\n", 4096),
	} {
		wantFault(t, text, api.ErrLong, 0)
	}
	wantFault(t, strings.Repeat("1", 65536), api.ErrScriptText, 1)
	wantFault(t, strings.Repeat("\n", 4096), api.ErrScriptText, 1)
	wantFault(t, strings.Repeat(" ", 65535)+"\n", api.ErrScriptText, 1)
	wantFault(t, "1"+strings.Repeat(" ", 65534)+"\n", api.ErrScriptText, 1)
	wantFault(t, strings.Repeat("1\n", 4095)+"1", api.ErrScriptText, 4096)
	wantFault(t, strings.Repeat("1\n", 4095)+"0\n", api.ErrScriptText, 4096)
	wantFault(t, strings.Repeat("1 keys 0001 in\n", 4095)+strings.Repeat("9", 4110)+"\n", api.ErrScriptText, 4096)
	if l, e, at := Parse(strings.Repeat("1\n", 4096)); !slices.Equal(l, row(4096, 1)) || e != api.OK || at != 0 {
		t.Errorf("4096 lines: %d spans, %d, %d", len(l), e, at)
	}
	if l, e, at := Parse(strings.Repeat("100 keys 00ff in\n", 3855)); len(l) != 3855 || e != api.OK || at != 0 {
		t.Errorf("65535 bytes: %d spans, %d, %d", len(l), e, at)
	}
	if l, e, at := Parse(strings.Repeat("100 keys 00ff in\n", 3854) + "1000 keys 00ff in\n"); len(l) != 3855 || e != api.OK || at != 0 {
		t.Errorf("65536 bytes: %d spans, %d, %d", len(l), e, at)
	}
	wantFault(t, strings.Repeat("100 keys 00ff in\n", 3854)+"10000 keys 00ff in\n", api.ErrLong, 0)
}

// P7.7: the line is told with which the cycles come to be too many; a line that is none comes first if it stands ahead.
func TestParseTooManyCycles(t *testing.T) {
	four := strings.Repeat("1048576\n", 4)
	if l, e, at := Parse(four); !slices.Equal(l, row(4, most)) || e != api.OK || at != 0 {
		t.Errorf("4194304 cycles: %d spans, %d, %d", len(l), e, at)
	}
	if l, e, at := Parse(strings.Repeat("1024\n", 4096)); !slices.Equal(l, row(4096, 1024)) || e != api.OK || at != 0 {
		t.Errorf("4096 times 1024 cycles: %d spans, %d, %d", len(l), e, at)
	}
	wantFault(t, four+"1\n", api.ErrScriptSpan, 5)
	wantFault(t, four+"1 tape\n1\n", api.ErrScriptSpan, 5)
	wantFault(t, "1\n"+four, api.ErrScriptSpan, 5)
	wantFault(t, "1\n1\n"+four, api.ErrScriptSpan, 6)
	wantFault(t, "1 tape\n"+four+"x\n", api.ErrScriptSpan, 5)
	wantFault(t, strings.Repeat("1048576\n", 4096), api.ErrScriptSpan, 5)
	wantFault(t, strings.Repeat("1025\n", 4096), api.ErrScriptSpan, 4093)
	wantFault(t, strings.Repeat("1024\n", 4095)+"1025\n", api.ErrScriptSpan, 4096)
	wantFault(t, four+"1", api.ErrScriptText, 5)
	wantFault(t, four+"0\n1\n", api.ErrScriptText, 5)
	wantFault(t, four+"1048577\n", api.ErrScriptText, 5)
	wantFault(t, four+"\n", api.ErrScriptText, 5)
	wantFault(t, "x\n"+four+"1\n", api.ErrScriptText, 1)
}

// The chapter's examples of P7.6 and P7.7.
func TestTextExamples(t *testing.T) {
	if s, e := Print([]api.Span{{Cycles: 3, Keys: 2, Clear: true, Bus: 0xff}}); s != "3 keys 0002 clear bus ff\n" || e != api.OK {
		t.Errorf("Print: %q, %d", s, e)
	}
	wantFault(t, "1\n01\n", api.ErrScriptText, 2)
	wantFault(t, "1", api.ErrScriptText, 1)
	wantFault(t, "1 wait clear\n", api.ErrScriptText, 1)
	if l, e, at := Parse(""); len(l) != 0 || e != api.OK || at != 0 {
		t.Errorf("Parse of the empty text: %v, %d, %d", l, e, at)
	}
}

// R5: what Parse answers is new each time.
func TestParseIsNew(t *testing.T) {
	text := strings.Repeat("3 keys 0002 clear bus ff\n1 tape\n", 5)
	for size := range 11 {
		cut := strings.Join(strings.SplitAfterN(text, "\n", size+1)[:size], "")
		first, _, _ := Parse(cut)
		kept, _, _ := Parse(cut)
		want := slices.Clone(kept)
		scribble(first)
		again, e, at := Parse(cut)
		if len(want) != size || e != api.OK || at != 0 || !slices.Equal(kept, want) || !slices.Equal(again, want) {
			t.Fatalf("Parse of %d lines is kept", size)
		}
	}
}
