package trace

import (
	"fmt"
	"regexp"
	"slices"
	"strconv"
	"strings"
	"testing"

	"vesper/api"
)

// twinText is the text of records that may be, written once more by the document.
func twinText(l []api.Record) string {
	var s strings.Builder
	for _, r := range l {
		fmt.Fprintf(&s, "s%d %04x %02x", r.Code, r.Address, r.Data)
		if r.Read {
			s.WriteString(" r")
		}
		if r.Write {
			s.WriteString(" w")
		}
		if r.Port > 0 {
			fmt.Fprintf(&s, " n%d", r.Port)
		}
		if r.Q {
			s.WriteString(" q")
		}
		switch r.Mode {
		case api.Pause:
			s.WriteString(" pause")
		case api.Reset:
			s.WriteString(" reset")
		case api.Load:
			s.WriteString(" load")
		}
		s.WriteByte('\n')
	}
	return s.String()
}

var lineForm = regexp.MustCompile(`^s([0-3]) ([0-9a-f]{4}) ([0-9a-f]{2})(?:( r)|( w))?(?: n([1-7]))?( q)?(?: (pause|reset|load))?$`)

// twinParse reads a text by the form of a line.
func twinParse(text string) ([]api.Record, api.Errno, int) {
	if len(text) > 65536 {
		return nil, api.ErrLong, 0
	}
	lines := strings.Split(text, "\n")
	var l []api.Record
	for i, line := range lines {
		last := i == len(lines)-1
		if last && line == "" {
			break
		}
		m := lineForm.FindStringSubmatch(line)
		if last || m == nil {
			return nil, api.ErrTraceText, i + 1
		}
		l = append(l, api.Record{
			Code: byte(worth(m[1])), Address: uint16(worth(m[2])), Data: byte(worth(m[3])), Read: m[4] != "", Write: m[5] != "",
			Port: byte(worth(m[6])), Q: m[7] != "", Mode: map[string]api.Mode{"": api.Run, "pause": api.Pause, "reset": api.Reset, "load": api.Load}[m[8]],
		})
	}
	return l, api.OK, 0
}

func worth(digits string) uint64 {
	n, _ := strconv.ParseUint(digits, 16, 16)
	return n
}

func wantLine(t *testing.T, text string, want api.Errno, line int) {
	t.Helper()
	if l, e, at := Parse(text); len(l) != 0 || e != want || at != line {
		t.Errorf("Parse of %.60q (%d bytes): %d records, %d, %d; want %d, %d", text, len(text), len(l), e, at, want, line)
	}
}

// P9.1, P9.2: records and their lines: each word by itself, all of them, edges of numbers.
func TestLines(t *testing.T) {
	for _, x := range []struct {
		record api.Record
		line   string
	}{
		{api.Record{}, "s0 0000 00\n"},
		{api.Record{Code: api.S1}, "s1 0000 00\n"},
		{api.Record{Code: api.S2}, "s2 0000 00\n"},
		{api.Record{Code: api.S3}, "s3 0000 00\n"},
		{api.Record{Address: 1}, "s0 0001 00\n"},
		{api.Record{Address: 0x8000}, "s0 8000 00\n"},
		{api.Record{Address: 0xffff}, "s0 ffff 00\n"},
		{api.Record{Address: 0x0abc}, "s0 0abc 00\n"},
		{api.Record{Address: 0xdef0}, "s0 def0 00\n"},
		{api.Record{Data: 1}, "s0 0000 01\n"},
		{api.Record{Data: 0x10}, "s0 0000 10\n"},
		{api.Record{Data: 0xff}, "s0 0000 ff\n"},
		{api.Record{Read: true}, "s0 0000 00 r\n"},
		{api.Record{Write: true}, "s0 0000 00 w\n"},
		{api.Record{Port: 1}, "s0 0000 00 n1\n"},
		{api.Record{Port: 7}, "s0 0000 00 n7\n"},
		{api.Record{Q: true}, "s0 0000 00 q\n"},
		{api.Record{Mode: api.Pause}, "s0 0000 00 pause\n"},
		{api.Record{Mode: api.Reset}, "s0 0000 00 reset\n"},
		{api.Record{Mode: api.Load}, "s0 0000 00 load\n"},
		{api.Record{Code: 3, Address: 0xbeef, Data: 0xa7, Read: true, Port: 5, Q: true, Mode: api.Load}, "s3 beef a7 r n5 q load\n"},
		{api.Record{Code: 2, Address: 0xf00d, Data: 0x5b, Write: true, Port: 6, Q: true, Mode: api.Pause}, "s2 f00d 5b w n6 q pause\n"},
		{api.Record{Code: 1, Address: 0x00ff, Data: 0x0a, Port: 4, Mode: api.Reset}, "s1 00ff 0a n4 reset\n"},
		{reads, "s0 0000 c4 r\n"},
		{writes, "s1 12ab 0f w n2 q\n"},
		{resets, "s1 0000 00 reset\n"},
	} {
		for k := range 3 {
			l, text := []api.Record{x.record}, x.line
			if k == 1 {
				l, text = append(l, writes), text+"s1 12ab 0f w n2 q\n"
			}
			if k == 2 {
				l, text = append([]api.Record{reads, reads}, l...), "s0 0000 c4 r\ns0 0000 c4 r\n"+text
			}
			if s, e := Print(l); s != text || e != api.OK {
				t.Errorf("Print of %+v: %q, %d", l, s, e)
			}
			if got, e, at := Parse(text); e != api.OK || at != 0 || !slices.Equal(got, l) {
				t.Errorf("Parse of %q: %+v, %d, %d", text, got, e, at)
			}
		}
	}
}

// P9.1, P9.2, P9.6: every address and every byte, there and back.
func TestEveryAddress(t *testing.T) {
	for from := 0; from < 65536; from += 2048 {
		l := make([]api.Record, 2048)
		for i := range l {
			n := from + i
			l[i] = api.Record{Code: byte(n>>3) & 3, Address: uint16(n), Data: byte(n*3 + n>>8), Read: n%3 == 1, Write: n%3 == 2, Port: byte(n) & 7, Q: n%5 == 0, Mode: api.Mode(n % 7 & 3)}
		}
		wantThereAndBack(t, l)
	}
}

// filler is a text of so many bytes, from 65527 + 2 on: 5957 lines, most of them of 11 bytes.
func filler(t *testing.T, size, place int) []api.Record {
	t.Helper()
	l := make([]api.Record, 5957)
	l[place] = api.Record{Read: true, Port: 1, Q: true}
	other := &l[(place+3000)%len(l)]
	switch size {
	case 65536:
		other.Q = true
	case 65537:
		other.Port = 3
	case 65538:
		other.Write, other.Q = true, true
	default:
		t.Fatal(size)
	}
	if got := len(twinText(l)); got != size {
		t.Fatalf("%d bytes, not %d", got, size)
	}
	return l
}

// P9.1, P9.2, P9.6: a text of just 65536 bytes is told and read, one of a byte more is neither.
func TestLongText(t *testing.T) {
	for _, place := range []int{0, 1, 2956, 2957, 5956} {
		l := filler(t, 65536, place)
		text, e := Print(l)
		if e != api.OK || text != twinText(l) {
			t.Errorf("65536 bytes: %d bytes, %d", len(text), e)
		}
		if back, e, at := Parse(text); e != api.OK || at != 0 || !slices.Equal(back, l) {
			t.Errorf("Parse of 65536 bytes: %d records, %d, %d", len(back), e, at)
		}
		for _, size := range []int{65537, 65538} {
			l = filler(t, size, place)
			if s, e := Print(l); s != "" || e != api.ErrLong {
				t.Errorf("%d bytes: %d bytes, %d", size, len(s), e)
			}
			wantLine(t, twinText(l), api.ErrLong, 0)
		}
	}
	if s, e := Print(make([]api.Record, 5957)); len(s) != 65527 || e != api.OK {
		t.Errorf("5957 lines: %d bytes, %d", len(s), e)
	}
	if s, e := Print(make([]api.Record, 5958)); s != "" || e != api.ErrLong {
		t.Errorf("5958 lines: %d bytes, %d", len(s), e)
	}
}

// P9.1: a record that may not be is told ahead of a text that is too long, wherever it stands.
func TestWrongAheadOfLong(t *testing.T) {
	for _, place := range []int{0, 5000, 5957, 5958, 9999} {
		l := make([]api.Record, 10000)
		if s, e := Print(l); s != "" || e != api.ErrLong {
			t.Errorf("10000 lines: %d bytes, %d", len(s), e)
		}
		l[place].Code = 4
		if s, e := Print(l); s != "" || e != api.ErrArg {
			t.Errorf("10000 lines, %d wrong: %d bytes, %d", place, len(s), e)
		}
	}
}

// P9.2: too many bytes, whatever stands in them; as many as may be are read.
func TestParseLong(t *testing.T) {
	for _, sign := range []string{" ", "\n", "s", "x", "0", "\x00"} {
		wantLine(t, strings.Repeat(sign, 65537), api.ErrLong, 0)
		wantLine(t, strings.Repeat(sign, 200000), api.ErrLong, 0)
		wantLine(t, strings.Repeat(sign, 65536), api.ErrTraceText, 1)
	}
	wantLine(t, strings.Repeat("s0 0000 00\n", 5958), api.ErrLong, 0)
	wantLine(t, strings.Repeat("s4 0000 00\n", 5958), api.ErrLong, 0)
	wantLine(t, strings.Repeat("s0 0000 00\n", 5957)+"s0 0000 0", api.ErrTraceText, 5958)
	wantLine(t, strings.Repeat("s0 0000 00\n", 5957)+"s0 0000 00", api.ErrLong, 0)
	wantLine(t, "s0 0000 00"+strings.Repeat(" ", 65525)+"\n", api.ErrTraceText, 1)
	wantLine(t, "s0 0000 00"+strings.Repeat(" ", 65526)+"\n", api.ErrLong, 0)
	wantLine(t, "s0 0000 00"+strings.Repeat(" q", 32762)+"\n", api.ErrTraceText, 1)
}

// P9.2: lines that are none of a record, alone, behind others and ahead of one: which line is told.
func TestWrongLines(t *testing.T) {
	for _, line := range []string{
		"", " ", "  ", "\t", "\r", "\x00", "x", "s", "s0", "s0 ", "s0 0000", "s0 0000 ", "0000 00", "s0 00", "r", "q", "reset", "r w n1 q load",
		"s4 0000 00", "s5 0000 00", "s7 0000 00", "s8 0000 00", "s9 0000 00", "sa 0000 00", "sf 0000 00", "s/ 0000 00", "s: 0000 00", "s- 0000 00", "s\x00 0000 00", "s\xff 0000 00", "s 0000 00", "s00 0000 00", "s01 0000 00", "s10 0000 00", "S0 0000 00", "t0 0000 00", "n0 0000 00", "0 0000 00", "0s 0000 00", "s 0 0000 00", "s+0 0000 00",
		"s0 000 00", "s0 00000 00", "s0 0 00", "s0 00 00", "s0 00000000 00", "s0 000000000 00", "s0 10000 00", "s0 00A0 00", "s0 ABCD 00", "s0 000g 00", "s0 +000 00", "s0 -001 00", "s0 0x00 00", "s0 00_0 00", "s0 0é0 00", "s0 \xff\xff\xff\xff 00", "s0 é0 00", "s0 00 00 00",
		"s0 0000 0", "s0 0000 000", "s0 0000 0000", "s0 0000 100", "s0 0000 A0", "s0 0000 0F", "s0 0000 fF", "s0 0000 0g", "s0 0000 +1", "s0 0000 -1", "s0 0000 é", "s0 0000 0x", "s0 0000 0 0", "s0 0000 r", "s0 0000 q",
		" s0 0000 00", "s0 0000 00 ", "s0  0000 00", "s0 0000  00", "s0 0000 00  r", "s0 0000 00 r ", "s0 0000 00 q ", "s0 0000 00 reset ", "  s0 0000 00 r", "s0 0000 00  ", "s0 0000 00 r  q", "s0 0000 00 r  n1", "s0 0000 00 r n1  q", "s0 0000 00 q  load",
		"\ts0 0000 00", "s0\t0000 00", "s0 0000\t00", "s0 0000 00\t", "s0 0000 00\tr", "s0 0000 00\r", "s0 0000 00 r\r", "s0 0000 00\x00", "s0 0000 00\v", "s0 0000 00\u00a0r", "s0\u00a00000 00",
		"0000 s0 00", "s0 00 0000", "00 0000 s0", "s0 0000 r 00", "s0 r 0000 00", "r s0 0000 00", "s0 q 0000 00", "reset s0 0000 00",
		"s0 0000 00 w r", "s0 0000 00 n1 r", "s0 0000 00 n1 w", "s0 0000 00 q r", "s0 0000 00 q w", "s0 0000 00 q n1", "s0 0000 00 load q", "s0 0000 00 reset r", "s0 0000 00 pause w", "s0 0000 00 pause n3", "s0 0000 00 q r n1", "s0 0000 00 n2 q w",
		"s0 0000 00 r r", "s0 0000 00 w w", "s0 0000 00 n1 n1", "s0 0000 00 n1 n2", "s0 0000 00 q q", "s0 0000 00 reset reset", "s0 0000 00 pause reset", "s0 0000 00 reset load", "s0 0000 00 load pause", "s0 0000 00 r q r", "s0 s0 0000 00", "s0 0000 0000 00", "s0 0000 00 00",
		"s0 0000 00 r w", "s0 0000 00 r w n1 q load", "s3 ffff ff r w",
		"s0 0000 00 n0", "s0 0000 00 n8", "s0 0000 00 n9", "s0 0000 00 na", "s0 0000 00 n", "s0 0000 00 n01", "s0 0000 00 n10", "s0 0000 00 n 1", "s0 0000 00 N1", "s0 0000 00 1", "s0 0000 00 n/", "s0 0000 00 n-1", "s0 0000 00 s1", "s0 0000 00 r n0", "s0 0000 00 n8 q", "s0 0000 00 n0 q",
		"s0 0000 00 R", "s0 0000 00 W", "s0 0000 00 Q", "s0 0000 00 Reset", "s0 0000 00 RESET", "s0 0000 00 run", "s0 0000 00 r run", "s0 0000 00 rese", "s0 0000 00 resets", "s0 0000 00 clear", "s0 0000 00 wait", "s0 0000 00 loaded", "s0 0000 00 p", "s0 0000 00 what", "s0 0000 00 r what", "s0 0000 00 read", "s0 0000 00 rw", "s0 0000 00 rq", "s0 0000 00 q,", "s0 0000 00;", "s0,0000,00",
		"s0000000", "s0 000000", "s00000 00", "s0 0000 00r", "s0 0000 00q", "s0 0000 00reset", "s0 0000 00 n1q", "s0 0000 00 qreset",
	} {
		wantLine(t, line+"\n", api.ErrTraceText, 1)
		wantLine(t, "s0 0000 00\n"+line+"\n", api.ErrTraceText, 2)
		wantLine(t, line+"\ns0 0000 00\n", api.ErrTraceText, 1)
		wantLine(t, chapterText+line+"\ns4\n"+chapterText, api.ErrTraceText, 4)
		if line != "" {
			wantLine(t, line, api.ErrTraceText, 1)
			wantLine(t, chapterText+line, api.ErrTraceText, 4)
		}
	}
}

// P9.2: what stands behind the last line feed is a line that is none, a record's or not.
func TestNoLineFeed(t *testing.T) {
	for _, line := range []string{"s0 0000 00", "s0 0000 c4 r", "s1 12ab 0f w n2 q", "s1 0000 00 reset", "s", " "} {
		wantLine(t, line, api.ErrTraceText, 1)
		wantLine(t, "s0 0000 00\n"+line, api.ErrTraceText, 2)
		wantLine(t, strings.Repeat("s3 ffff ff load\n", 40)+line, api.ErrTraceText, 41)
		wantLine(t, "s4\n"+line, api.ErrTraceText, 1)
	}
	wantLine(t, "\n", api.ErrTraceText, 1)
	wantLine(t, "\n\n", api.ErrTraceText, 1)
	wantLine(t, "s0 0000 00\n\n", api.ErrTraceText, 2)
	wantLine(t, "s0 0000 00\n\ns0 0000 00\n", api.ErrTraceText, 2)
	wantLine(t, "\ns0 0000 00\n", api.ErrTraceText, 1)
}

// randomRecord is one that may be, the words of its line there or not.
func randomRecord(d *uint64, address uint16) api.Record {
	r := api.Record{Code: byte(draw(d, 4)), Address: address, Data: byte(draw(d, 256)), Q: draw(d, 2) == 1}
	switch draw(d, 3) {
	case 1:
		r.Read = true
	case 2:
		r.Write = true
	}
	if draw(d, 3) == 0 {
		r.Port = byte(draw(d, 8))
	}
	if draw(d, 3) == 0 {
		r.Mode = api.Mode(draw(d, 4))
	}
	return r
}

// P9.2, P9.6: texts of records with a few bytes changed, against the form of a line.
func TestParseSweep(t *testing.T) {
	d := uint64(9)
	const signs = "s01234789abfnrwqpauselod \n \nAS\x00\xff"
	right, wrong := 0, 0
	for range 30000 {
		l := make([]api.Record, 1+draw(&d, 4))
		for i := range l {
			l[i] = randomRecord(&d, uint16(draw(&d, 65536)))
		}
		text := []byte(twinText(l))
		for range draw(&d, 3) {
			sign := signs[draw(&d, len(signs))]
			at := draw(&d, len(text))
			switch draw(&d, 3) {
			case 0:
				text[at] = sign
			case 1:
				text = slices.Insert(text, at, sign)
			case 2:
				text = slices.Delete(text, at, at+1)
			}
		}
		want, wantE, wantAt := twinParse(string(text))
		got, e, at := Parse(string(text))
		if !slices.Equal(got, want) || e != wantE || at != wantAt {
			t.Fatalf("Parse of %q: %v, %d, %d; want %v, %d, %d", text, got, e, at, want, wantE, wantAt)
		}
		if e != api.OK {
			wrong++
			continue
		}
		right++
		if back, e := Print(got); e != api.OK || back != string(text) {
			t.Fatalf("Print of what Parse takes of %q: %q, %d", text, back, e)
		}
	}
	if right < 5000 || wrong < 5000 {
		t.Errorf("%d right, %d wrong", right, wrong)
	}
}
