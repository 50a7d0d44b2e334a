package trace

import (
	"bytes"
	"slices"
	"testing"

	"vesper/api"
)

// P9.1: the chapter's rows of Print.
func TestPrintExamples(t *testing.T) {
	for _, x := range []struct {
		record api.Record
		text   string
		e      api.Errno
	}{
		{api.Record{Code: api.S0, Address: 0, Data: 0xc4, Read: true}, "s0 0000 c4 r\n", api.OK},
		{api.Record{Code: api.S1, Address: 0x12ab, Data: 0x0f, Write: true, Port: 2, Q: true}, "s1 12ab 0f w n2 q\n", api.OK},
		{api.Record{Code: api.S1, Address: 0, Data: 0, Mode: api.Reset}, "s1 0000 00 reset\n", api.OK},
		{api.Record{Read: true, Write: true}, "", api.ErrArg},
	} {
		if s, e := Print([]api.Record{x.record}); s != x.text || e != x.e {
			t.Errorf("Print of %+v: %q, %d", x.record, s, e)
		}
	}
}

// P9.2: the chapter's row of Parse, and what it says of all three lines.
func TestParseExamples(t *testing.T) {
	wantLine(t, "s0 0000 c4 r\ns4 0000 00\n", api.ErrTraceText, 2)
	if l, e, at := Parse(chapterText); e != api.OK || at != 0 || !slices.Equal(l, []api.Record{reads, writes, resets}) {
		t.Errorf("Parse of the chapter's lines: %v, %d, %d", l, e, at)
	}
}

// P9.3: the chapter's rows of Pack.
func TestPackExamples(t *testing.T) {
	if b, e := Pack(nil); e != api.OK || !bytes.Equal(b, []byte{0x56, 0x54, 0x52, 0x31, 0, 0, 0, 0}) {
		t.Errorf("Pack of none: %x, %d", b, e)
	}
	if b, e := Pack([]api.Record{reads, writes}); e != api.OK || !bytes.Equal(b, chapterBytes()) {
		t.Errorf("Pack of the first two: %x, %d", b, e)
	}
}

// P9.4: the chapter's rows of Unpack.
func TestUnpackExamples(t *testing.T) {
	if l, e, at := Unpack(chapterBytes()); e != api.OK || at != 0 || !slices.Equal(l, []api.Record{reads, writes}) {
		t.Errorf("Unpack of the first two: %v, %d, %d", l, e, at)
	}
	wantFault(t, chapterBytes()[:14], 10)
	for more := range 256 {
		wantFault(t, append(chapterBytes(), byte(more)), 15)
	}
	wantFault(t, []byte{0x56, 0x54, 0x52, 0x31, 1, 0, 0, 0, 0x80, 0, 0, 0, 0}, 8)
}

// P9.5: the chapter's row of Apart.
func TestApartExamples(t *testing.T) {
	l := []api.Record{reads, writes}
	if got := Apart(l, l); got != -1 {
		t.Errorf("Apart of a trace and itself: %d", got)
	}
	if got := Apart(l, l[:1]); got != 1 {
		t.Errorf("Apart of it and its first record: %d", got)
	}
	if got := Apart(nil, l); got != 0 {
		t.Errorf("Apart of none and it: %d", got)
	}
}
