package trace

import (
	"bytes"
	"slices"
	"testing"

	"vesper/api"
)

// draw is the next of a row of numbers that is always the same, below n.
func draw(d *uint64, n int) int {
	*d = *d*6364136223846793005 + 1442695040888963407
	return int(*d >> 33 % uint64(n))
}

// the chapter's records: one that reads, one that has nearly everything, one in the mode Reset.
var (
	reads  = api.Record{Code: api.S0, Data: 0xc4, Read: true}
	writes = api.Record{Code: api.S1, Address: 0x12ab, Data: 0x0f, Write: true, Port: 2, Q: true}
	resets = api.Record{Code: api.S1, Mode: api.Reset}
)

const chapterText = "s0 0000 c4 r\ns1 12ab 0f w n2 q\ns1 0000 00 reset\n"

func chapterBytes() []byte {
	return []byte{0x56, 0x54, 0x52, 0x31, 2, 0, 0, 0, 0x04, 0xc4, 0x99, 0x02, 0xab, 0x12, 0x0f}
}

// scribble writes over a list and over the room behind its end, and makes it grow.
func scribble[T any](l []T, v T) {
	whole := l[:cap(l)]
	for i := range whole {
		whole[i] = v
	}
	_ = append(l, v)
}

// steps is so many records at addresses that follow on one another, from 0 on.
func steps(n int) []api.Record {
	l := make([]api.Record, n)
	for i := range l {
		l[i] = api.Record{Address: uint16(i), Data: byte(i), Read: true}
	}
	return l
}

// wrongRecords may not be; each has one thing wrong with it, or several.
var wrongRecords = []api.Record{
	{Code: 4}, {Code: 5}, {Code: 8}, {Code: 128}, {Code: 254}, {Code: 255},
	{Port: 8}, {Port: 9}, {Port: 16}, {Port: 128}, {Port: 255},
	{Mode: 4}, {Mode: 5}, {Mode: 8}, {Mode: 128}, {Mode: 255},
	{Read: true, Write: true}, {Code: 2, Address: 5, Data: 6, Read: true, Write: true, Port: 7, Q: true, Mode: api.Load},
	{Code: 4, Port: 8, Mode: 4, Read: true, Write: true}, {Code: 255, Port: 255, Mode: 255},
}

func wantRefused(t *testing.T, l []api.Record, want api.Errno) {
	t.Helper()
	if s, e := Print(l); s != "" || e != want {
		t.Errorf("Print of %d records: %d bytes, %d; want %d", len(l), len(s), e, want)
	}
	if b, e := Pack(l); len(b) != 0 || e != want {
		t.Errorf("Pack of %d records: %d bytes, %d; want %d", len(l), len(b), e, want)
	}
}

// P9.1, P9.3: one record that may not be is enough, wherever it stands.
func TestWrongRecords(t *testing.T) {
	for _, r := range wrongRecords {
		wantRefused(t, []api.Record{r}, api.ErrArg)
		wantRefused(t, []api.Record{r, reads, writes}, api.ErrArg)
		wantRefused(t, []api.Record{reads, r, writes}, api.ErrArg)
		wantRefused(t, []api.Record{reads, writes, r}, api.ErrArg)
	}
}

// P9.1 to P9.4, P9.6: every record's fields that may be, and none that may not.
func TestWhichMayBe(t *testing.T) {
	for code := range 6 {
		for port := range 10 {
			for mode := range 6 {
				for k := range 8 {
					r := api.Record{Code: byte(code), Address: 7, Data: 9, Port: byte(port), Mode: api.Mode(mode), Read: k&1 != 0, Write: k&2 != 0, Q: k&4 != 0}
					if code > 3 || port > 7 || mode > 3 || k&3 == 3 {
						wantRefused(t, []api.Record{r}, api.ErrArg)
						continue
					}
					wantThereAndBack(t, []api.Record{r})
				}
			}
		}
	}
}

func wantThereAndBack(t *testing.T, l []api.Record) {
	t.Helper()
	text, e := Print(l)
	if e != api.OK || text != twinText(l) {
		t.Fatalf("Print of %+v: %q, %d", l, text, e)
	}
	if back, e, at := Parse(text); e != api.OK || at != 0 || !slices.Equal(back, l) {
		t.Fatalf("Parse of %q: %+v, %d, %d", text, back, e, at)
	}
	b, e := Pack(l)
	if e != api.OK || !bytes.Equal(b, twinBytes(l)) {
		t.Fatalf("Pack of %+v: %x, %d", l, b, e)
	}
	if back, e, at := Unpack(b); e != api.OK || at != 0 || !slices.Equal(back, l) {
		t.Fatalf("Unpack of %x: %+v, %d, %d", b, back, e, at)
	}
}

// P9.1 to P9.4: no record at all, nil or empty.
func TestNone(t *testing.T) {
	for _, l := range [][]api.Record{nil, {}} {
		if s, e := Print(l); s != "" || e != api.OK {
			t.Errorf("Print of none: %q, %d", s, e)
		}
		if b, e := Pack(l); string(b) != "VTR1\x00\x00\x00\x00" || e != api.OK {
			t.Errorf("Pack of none: %x, %d", b, e)
		}
	}
	if l, e, at := Parse(""); len(l) != 0 || e != api.OK || at != 0 {
		t.Errorf("Parse of the empty text: %v, %d, %d", l, e, at)
	}
	if l, e, at := Unpack([]byte("VTR1\x00\x00\x00\x00")); len(l) != 0 || e != api.OK || at != 0 {
		t.Errorf("Unpack of none: %v, %d, %d", l, e, at)
	}
}

// P9.1, P9.3, P9.4, P9.6: 4194304 records are packed, one more is not; too many is told ahead of a record that may not be, which is told ahead of a text that is too long.
func TestMostRecords(t *testing.T) {
	l := steps(api.MaxCycles + 1)
	most := l[:api.MaxCycles]
	if s, e := Print(most); s != "" || e != api.ErrLong {
		t.Errorf("Print of 4194304: %d bytes, %d", len(s), e)
	}
	b, e := Pack(most)
	if e != api.OK || len(b) != 8+2*api.MaxCycles || string(b[:8]) != "VTR1\x00\x00\x40\x00" {
		t.Fatalf("Pack of 4194304: %d bytes, %d", len(b), e)
	}
	if back, e, at := Unpack(b); e != api.OK || at != 0 || Apart(back, most) != -1 {
		t.Errorf("Unpack of 4194304: %d records, %d, %d", len(back), e, at)
	}
	b[4] = 1
	wantFault(t, append(b, 4, 0), 0)
	wantRefused(t, l, api.ErrLong)
	l[0].Code = 4
	wantRefused(t, l, api.ErrLong)
	wantRefused(t, most, api.ErrArg)
	l[0].Code = 0
	l[api.MaxCycles-1].Port = 8
	wantRefused(t, l, api.ErrLong)
	wantRefused(t, most, api.ErrArg)
	l[api.MaxCycles-1].Port = 0
	l[api.MaxCycles].Mode = 4
	wantRefused(t, l, api.ErrLong)
	if _, e := Pack(most); e != api.OK {
		t.Errorf("Pack of 4194304 behind that: %d", e)
	}
}

// P9.5: the first place, the shorter one's length, -1.
func TestApart(t *testing.T) {
	three := []api.Record{reads, writes, resets}
	for _, x := range []struct {
		a, b []api.Record
		want int
	}{
		{nil, nil, -1}, {nil, []api.Record{}, -1}, {[]api.Record{}, []api.Record{}, -1},
		{three, three, -1}, {three, slices.Clone(three), -1},
		{three, three[:2], 2}, {three, three[:1], 1}, {three, three[:0], 0}, {three, nil, 0},
		{three, []api.Record{writes, writes, resets}, 0},
		{three, []api.Record{reads, reads, resets}, 1},
		{three, []api.Record{reads, writes, reads}, 2},
		{three, []api.Record{reads, reads}, 1},
		{three, []api.Record{writes}, 0},
		{three, []api.Record{reads, resets, writes, resets, resets}, 1},
		{three, []api.Record{reads, writes, resets, resets}, 3},
	} {
		if got := Apart(x.a, x.b); got != x.want {
			t.Errorf("Apart(%v, %v) = %d, want %d", x.a, x.b, got, x.want)
		}
		if got := Apart(x.b, x.a); got != x.want {
			t.Errorf("the other way round: Apart(%v, %v) = %d, want %d", x.b, x.a, got, x.want)
		}
	}
}

// P9.5: each field counts, also in records that may not be.
func TestApartFields(t *testing.T) {
	for _, r := range append([]api.Record{{}, reads, writes, resets}, wrongRecords...) {
		others := make([]api.Record, 8)
		for i := range others {
			others[i] = r
		}
		others[0].Code ^= 0x80
		others[1].Address ^= 0x100
		others[2].Data ^= 1
		others[3].Read = !r.Read
		others[4].Write = !r.Write
		others[5].Port ^= 0x10
		others[6].Q = !r.Q
		others[7].Mode ^= 0x40
		if got := Apart([]api.Record{r, r}, []api.Record{r, r}); got != -1 {
			t.Errorf("Apart of %+v twice: %d", r, got)
		}
		for _, o := range others {
			if got := Apart([]api.Record{r, r, o}, []api.Record{r, o, r}); got != 1 {
				t.Errorf("Apart of %+v, %+v: %d", r, o, got)
			}
		}
	}
}

// P9.5: against a walk of its own, lists of few records.
func TestApartSweep(t *testing.T) {
	d := uint64(5)
	few := func() []api.Record {
		l := make([]api.Record, draw(&d, 6))
		for i := range l {
			l[i] = []api.Record{reads, writes}[draw(&d, 8)/7]
		}
		return l
	}
	seen := map[int]int{}
	for range 20000 {
		a, b := few(), few()
		want := -1
		if !slices.Equal(a, b) {
			want = 0
			for want < len(a) && want < len(b) && slices.Equal(a[:want+1], b[:want+1]) {
				want++
			}
		}
		seen[want]++
		if got := Apart(a, b); got != want {
			t.Fatalf("Apart(%v, %v) = %d, want %d", a, b, got, want)
		}
	}
	for want := -1; want < 5; want++ {
		if seen[want] < 20 {
			t.Errorf("%d came %d times", want, seen[want])
		}
	}
}

// rule R5: what is handed in is neither changed nor kept, the room behind its end neither.
func TestHandedIn(t *testing.T) {
	wrong := api.Record{Code: 255, Address: 0xffff, Data: 255, Read: true, Write: true, Port: 255, Q: true, Mode: 255}
	room := []api.Record{reads, writes, resets, reads, wrong, wrong, wrong, wrong}
	l := room[:4]
	before := slices.Clone(room)
	text, e := Print(l)
	b, f := Pack(l)
	Apart(l, l[:2])
	if e != api.OK || f != api.OK || !slices.Equal(room, before) {
		t.Errorf("Print and Pack: %d, %d; the records are now %v", e, f, room)
	}
	scribble(room, wrong)
	if text != chapterText+"s0 0000 c4 r\n" || !bytes.Equal(b, twinBytes(before[:4])) {
		t.Errorf("behind the calls: %q, %x", text, b)
	}
	spare := append(slices.Clone(b), 1, 2, 3, 4, 5, 6, 7)
	kept := slices.Clone(spare)
	back, e, at := Unpack(spare[:len(b)])
	if e != api.OK || at != 0 || !bytes.Equal(spare, kept) {
		t.Errorf("Unpack: %d, %d; the bytes are now %x", e, at, spare)
	}
	scribble(spare, 0xee)
	if !slices.Equal(back, before[:4]) {
		t.Errorf("behind Unpack: %v", back)
	}
}

// rule R5: an answer is new memory, spare room too.
func TestAnswers(t *testing.T) {
	for n := range 20 {
		l := append(steps(n), writes)
		text, packed := twinText(l), twinBytes(l)
		firstParsed, _, _ := Parse(text)
		firstPacked, _ := Pack(l)
		firstBack, _, _ := Unpack(packed)
		secondParsed, _, _ := Parse(text)
		secondPacked, _ := Pack(l)
		secondBack, _, _ := Unpack(packed)
		scribble(firstParsed, resets)
		scribble(firstPacked, 0xee)
		scribble(firstBack, resets)
		if !slices.Equal(secondParsed, l) || !bytes.Equal(secondPacked, packed) || !slices.Equal(secondBack, l) {
			t.Errorf("%d: %v, %x, %v", n, secondParsed, secondPacked, secondBack)
		}
		if !bytes.Equal(packed, twinBytes(l)) {
			t.Errorf("%d: what was handed in is now %x", n, packed)
		}
		thirdBack, e, at := Unpack(packed)
		if e != api.OK || at != 0 || !slices.Equal(thirdBack, l) {
			t.Errorf("%d: a third answer %v, %d, %d", n, thirdBack, e, at)
		}
	}
}
