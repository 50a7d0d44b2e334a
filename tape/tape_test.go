package tape

import (
	"bytes"
	"errors"
	"fmt"
	"math"
	"slices"
	"strings"
	"testing"

	"vesper/api"
)

// P12.1: the chapter's examples, each row.
func TestExamplesOfWrite(t *testing.T) {
	for _, x := range []struct {
		b      []byte
		leader int
		want   string
	}{
		{[]byte{0x01}, 2, "00" + "1" + "10000000" + "0"},
		{[]byte{0x00}, 0, "1" + "00000000" + "1"},
	} {
		if l, e := Write(x.b, x.leader); e != api.OK || !slices.Equal(l, waves(x.want)) {
			t.Errorf("Write(%x, %d): %v, %d; want %s", x.b, x.leader, l, e, x.want)
		}
	}
}

// P12.2: the chapter's examples, each row.
func TestExamplesOfRead(t *testing.T) {
	first, _ := Write([]byte{0x01}, 2)
	turned := slices.Clone(first)
	turned[11] = api.Wave{High: 140, Low: 140}
	for _, x := range []struct {
		l    []api.Wave
		n    int
		want string
	}{
		{first, 1, "[1] 0 0"},
		{first, 2, "[] 122 12"},
		{turned, 1, "[] 121 11"},
		{[]api.Wave{{High: 20, Low: 19}}, 1, "[] 120 0"},
		{[]api.Wave{{High: 400, Low: 401}}, 1, "[] 120 0"},
		{[]api.Wave{{High: 0, Low: 100}}, 1, "[] 120 0"},
	} {
		b, e, at := Read(x.l, x.n)
		if got := fmt.Sprint(b, int(e), at); got != x.want {
			t.Errorf("Read of %v, %d: %s; want %s", x.l, x.n, got, x.want)
		}
	}
	if got := askedKind(api.Wave{High: 97, Low: 98}); got != '0' {
		t.Errorf("97 and 98: %c", got)
	}
	if got := askedKind(api.Wave{High: 98, Low: 98}); got != '1' {
		t.Errorf("98 and 98: %c", got)
	}
}

// P12.3, P12.4: the chapter's examples, each row.
func TestExamplesOfSpans(t *testing.T) {
	s, e := Spans(waves("0"), api.Span{Keys: 1})
	if want := []api.Span{{Cycles: 56, Keys: 1, Tape: true}, {Cycles: 56, Keys: 1}}; e != api.OK || !slices.Equal(s, want) {
		t.Errorf("Spans of 56 and 56: %v, %d", s, e)
	}
	if s, e := Spans(slices.Repeat(waves("0"), 2049), api.Span{}); e != api.ErrLong || len(s) != 0 {
		t.Errorf("Spans of 2049 waves: %d spans, %d", len(s), e)
	}
	if s, e := Spans([]api.Wave{{High: 0, Low: 5}}, api.Span{}); e != api.ErrArg || len(s) != 0 {
		t.Errorf("Spans of 0 and 5: %v, %d", s, e)
	}
	l, e := Heard([]api.Span{{Cycles: 3}, {Cycles: 5, Tape: true}, {Cycles: 2, Tape: true}, {Cycles: 4}, {Cycles: 1, Tape: true}})
	if want := []api.Wave{{High: 7, Low: 4}, {High: 1, Low: 0}}; e != api.OK || !slices.Equal(l, want) {
		t.Errorf("Heard: %v, %d", l, e)
	}
}

// P12.1: each byte, behind no leader and behind one; a wave's form is the chapter's.
func TestWriteEachByte(t *testing.T) {
	for v := range 256 {
		for _, leader := range []int{0, 1, 7} {
			text := twinWrite([]byte{byte(v)}, leader)
			if l, e := Write([]byte{byte(v)}, leader); e != api.OK || !slices.Equal(l, waves(text)) {
				t.Fatalf("Write of %02x, %d: %s, %d; want %s", v, leader, drawing(l), e, text)
			}
		}
	}
}

// P12.1: the bytes stand one behind the other, the leader ahead of all alone; no byte at all, the most of them, the longest leader.
func TestWriteMany(t *testing.T) {
	d := uint64(1)
	for _, bytes := range []int{0, 1, 2, 3, 100, 16383, 16384} {
		b := make([]byte, bytes)
		for i := range b {
			b[i] = byte(draw(&d, 256))
		}
		for _, leader := range []int{0, 1, 2, 99, 16383, 16384} {
			l, e := Write(b, leader)
			if e != api.OK || len(l) != leader+10*bytes || !slices.Equal(l, waves(twinWrite(b, leader))) {
				t.Fatalf("Write of %d bytes, %d: %d waves, %d", bytes, leader, len(l), e)
			}
		}
	}
	for _, b := range [][]byte{nil, {}} {
		if l, e := Write(b, 0); e != api.OK || len(l) != 0 {
			t.Errorf("Write of nothing: %v, %d", l, e)
		}
	}
}

// P12.1, R4: too many bytes, ahead of a leader that may not be.
func TestWriteRefuses(t *testing.T) {
	for _, x := range []struct {
		bytes, leader int
		want          api.Errno
	}{
		{0, -1, api.ErrArg}, {0, 16385, api.ErrArg}, {1, -1, api.ErrArg}, {1, 16385, api.ErrArg}, {16384, -1, api.ErrArg}, {16384, 16385, api.ErrArg},
		{3, math.MinInt, api.ErrArg}, {3, math.MaxInt, api.ErrArg}, {3, math.MaxInt - 29, api.ErrArg}, {3, 1 << 32, api.ErrArg}, {3, -1 << 32, api.ErrArg},
		{16385, 0, api.ErrLong}, {16385, 16384, api.ErrLong}, {20000, 5, api.ErrLong}, {1 << 20, 0, api.ErrLong},
		{16385, -1, api.ErrLong}, {16385, 16385, api.ErrLong}, {16385, math.MinInt, api.ErrLong}, {16385, math.MaxInt, api.ErrLong},
	} {
		if l, e := Write(make([]byte, x.bytes), x.leader); e != x.want || len(l) != 0 {
			t.Errorf("Write of %d bytes, %d: %d waves, %d; want %d", x.bytes, x.leader, len(l), e, x.want)
		}
	}
}

// askedKind is what Read takes a wave for: a 1, if nine ones behind it are a byte's.
func askedKind(w api.Wave) byte {
	l := append([]api.Wave{w}, waves("111111111")...)
	b, e, at := Read(l, 1)
	switch fmt.Sprint(b, int(e), at) {
	case "[255] 0 0":
		return '1'
	case "[] 122 10":
		return '0'
	case "[] 120 0":
		return 'x'
	}
	return '?'
}

// P12.2: a wave of any two halves up to 810 cycles is a bit, or none, by the chapter's bounds.
func TestEachWave(t *testing.T) {
	ones := waves("111111111")
	l := append(make([]api.Wave, 1), ones...)
	for high := -2; high <= 810; high++ {
		for low := -2; low <= 810; low++ {
			l[0] = api.Wave{High: high, Low: low}
			b, e, at := Read(l, 1)
			var right bool
			switch sum := high + low; {
			case high < 1 || low < 1 || sum < 40 || sum > 800:
				right = len(b) == 0 && e == api.ErrTapeWave && at == 0
			case sum <= 195:
				right = len(b) == 0 && e == api.ErrTapeEnd && at == 10
			default:
				right = bytes.Equal(b, []byte{0xff}) && e == api.OK && at == 0
			}
			if !right {
				t.Fatalf("of %d and %d: %x, %d, %d", high, low, b, e, at)
			}
		}
	}
}

// P12.2: the bounds, and halves that are none or so great that their sum would not be a true one, answers written out.
func TestBoundsOfAWave(t *testing.T) {
	for _, x := range []struct {
		high, low int
		want      byte
	}{
		{20, 19, 'x'}, {19, 20, 'x'}, {1, 38, 'x'}, {38, 1, 'x'}, {39, 0, 'x'}, {1, 1, 'x'},
		{20, 20, '0'}, {1, 39, '0'}, {39, 1, '0'}, {40, 0, 'x'}, {0, 40, 'x'},
		{98, 97, '0'}, {97, 98, '0'}, {1, 194, '0'}, {194, 1, '0'}, {195, 0, 'x'}, {0, 195, 'x'},
		{98, 98, '1'}, {1, 195, '1'}, {195, 1, '1'}, {196, 0, 'x'}, {0, 196, 'x'},
		{400, 400, '1'}, {1, 799, '1'}, {799, 1, '1'}, {800, 0, 'x'}, {0, 800, 'x'},
		{400, 401, 'x'}, {401, 400, 'x'}, {1, 800, 'x'}, {800, 1, 'x'}, {801, 0, 'x'}, {800, 800, 'x'},
		{0, 0, 'x'}, {0, 100, 'x'}, {100, 0, 'x'}, {-1, 100, 'x'}, {100, -1, 'x'}, {-1, 101, 'x'}, {-300, 400, 'x'}, {400, -300, 'x'}, {-50, -50, 'x'},
		{math.MaxInt, math.MaxInt, 'x'}, {math.MaxInt, 1, 'x'}, {1, math.MaxInt, 'x'}, {1 << 62, 1 << 62, 'x'}, {math.MaxInt, 100, 'x'},
		{math.MinInt, math.MinInt, 'x'}, {math.MinInt, math.MinInt + 100, 'x'}, {math.MaxInt, -math.MaxInt + 100, 'x'}, {math.MinInt, 100, 'x'}, {100, math.MinInt, 'x'},
		{1<<32 + 56, 56, 'x'}, {56, 1<<32 + 56, 'x'}, {1<<31 + 56, 1 << 31, 'x'}, {1<<16 + 56, 56, 'x'}, {256 + 56, 256 + 244, 'x'}, {1 << 40, 1 << 40, 'x'},
		{56, 56, '0'}, {140, 140, '1'},
	} {
		w := api.Wave{High: x.high, Low: x.low}
		if got := askedKind(w); got != x.want || kind(w) != x.want {
			t.Errorf("%d and %d: %c; want %c", x.high, x.low, got, x.want)
		}
	}
}

// P12.2: edges, answers written out.
func TestReadEdges(t *testing.T) {
	one := "1" + "10000000" + "0"
	for _, x := range []struct {
		text string
		n    int
		want string
	}{
		{"", 0, "[] 0 0"},
		{"", 1, "[] 122 0"},
		{"", 16384, "[] 122 0"},
		{"x", 0, "[] 0 0"},
		{"xxx", 0, "[] 0 0"},
		{"0000", 0, "[] 0 0"},
		{"0000", 1, "[] 122 4"},
		{"1", 1, "[] 122 1"},
		{"0001", 1, "[] 122 4"},
		{"00011", 1, "[] 122 5"},
		{one[:9], 1, "[] 122 9"},
		{one, 1, "[1] 0 0"},
		{one, 2, "[] 122 10"},
		{one + "000", 2, "[] 122 13"},
		{one + "0001", 2, "[] 122 14"},
		{one + one, 2, "[1 1] 0 0"},
		{one + one, 1, "[1] 0 0"},
		{one + one, 0, "[] 0 0"},
		{one + "00000" + one, 2, "[1 1] 0 0"},
		{one + one, 3, "[] 122 20"},
		{one + "x", 1, "[1] 0 0"},
		{one + "x", 2, "[] 120 10"},
		{one + "x" + one, 2, "[] 120 10"},
		{one + "00x" + one, 2, "[] 120 12"},
		{"x" + one, 1, "[] 120 0"},
		{"0x0" + one, 1, "[] 120 1"},
		{"1xxxxxxxxx", 1, "[] 120 1"},
		{"11000000x1", 1, "[] 120 8"},
		{"110000000x", 1, "[] 120 9"},
		{"110000000", 1, "[] 122 9"},
		{"1100000001", 1, "[] 121 9"},
		{"1100000001x", 1, "[] 121 9"},
		{"0011000000010", 1, "[] 121 11"},
		{one + "1000000000", 1, "[1] 0 0"},
		{one + "1000000000", 2, "[] 121 19"},
		{one + "1000000000" + "x", 3, "[] 121 19"},
		{one + "100x000000" + "1000000000", 3, "[] 120 13"},
		{"1000000000" + "100000000x", 2, "[] 121 9"},
		{"1000000000" + "1000000000", 2, "[] 121 9"},
		{one + "x", 16385, "[] 1 0"},
		{"x", -1, "[] 1 0"},
		{"1000000000", -1, "[] 1 0"},
		{"", math.MinInt, "[] 1 0"},
		{"", math.MaxInt, "[] 1 0"},
		{one, 1<<32 + 1, "[] 1 0"},
	} {
		l := waves(x.text)
		b, e, at := Read(l, x.n)
		if got := fmt.Sprint(b, int(e), at); got != x.want {
			t.Errorf("Read of %s, %d: %s; want %s", x.text, x.n, got, x.want)
		}
		wantRead(t, l, x.n)
	}
}

// allTexts are the drawings of so many waves of those kinds.
func allTexts(kinds string, n int) []string {
	out := []string{""}
	for range n {
		var longer []string
		for _, text := range out {
			for _, k := range kinds {
				longer = append(longer, text+string(k))
			}
		}
		out = longer
	}
	return out
}

// P12.2: every tape of up to seven waves of any kind, and every one of up to 13 bits.
func TestReadEveryShortTape(t *testing.T) {
	for n := range 8 {
		for _, text := range allTexts("01x", n) {
			for bytes := range 3 {
				wantRead(t, waves(text), bytes)
			}
		}
	}
	for n := range 14 {
		for _, text := range allTexts("01", n) {
			wantRead(t, waves(text), 1)
		}
	}
}

// P12.2: a byte's ten bits cut behind each, and with a wave that is no bit in the place of each.
func TestReadCutBytes(t *testing.T) {
	for v := range 256 {
		text := "1" + nine(byte(v))
		ahead := twinWrite([]byte{0x5a, byte(v)}, 3) + "00"
		for at := range 10 {
			l := waves(ahead + text[:at])
			if b, e, k := Read(l, 3); len(b) != 0 || e != api.ErrTapeEnd || k != 25+at {
				t.Fatalf("%02x cut behind %d bits: %x, %d, %d", v, at, b, e, k)
			}
			l = waves(ahead + text[:at] + "x" + text[at+1:])
			if b, e, k := Read(l, 3); len(b) != 0 || e != api.ErrTapeWave || k != 25+at {
				t.Fatalf("%02x without bit %d: %x, %d, %d", v, at, b, e, k)
			}
		}
		if b, e, k := Read(waves(ahead+text), 3); !bytes.Equal(b, []byte{0x5a, byte(v), byte(v)}) || e != api.OK || k != 0 {
			t.Fatalf("%02x whole: %x, %d, %d", v, b, e, k)
		}
	}
}

// P12.6: each byte, each of its nine bits turned: told at the byte's last bit, whichever was turned.
func TestTurnedBits(t *testing.T) {
	for v := range 256 {
		l, _ := Write([]byte{0x33, byte(v), 0x44}, 4)
		for bit := range 9 {
			turned := slices.Clone(l)
			at := 4 + 10 + 1 + bit
			turned[at] = waves(map[byte]string{'0': "1", '1': "0"}[kind(l[at])])[0]
			for _, n := range []int{2, 3} {
				if b, e, k := Read(turned, n); len(b) != 0 || e != api.ErrTapeOdd || k != 4+10+9 {
					t.Fatalf("%02x with bit %d turned, %d bytes: %x, %d, %d", v, bit, n, b, e, k)
				}
			}
			if b, e, k := Read(turned, 1); !bytes.Equal(b, []byte{0x33}) || e != api.OK || k != 0 {
				t.Fatalf("ahead of %02x: %x, %d, %d", v, b, e, k)
			}
		}
	}
}

// P12.2, P12.6: of two bits that are turned nothing is told: it is another byte.
func TestTwoTurnedBits(t *testing.T) {
	for i := range 9 {
		for k := range i {
			row := []byte("1" + nine(0x6b))
			row[1+i] ^= 1
			row[1+k] ^= 1
			want := 0x6b ^ byte(uint16(1)<<i) ^ byte(uint16(1)<<k)
			if b, e, at := Read(waves(string(row)), 1); !bytes.Equal(b, []byte{want}) || e != api.OK || at != 0 {
				t.Errorf("bits %d and %d turned: %x, %d, %d; want %02x", i, k, b, e, at, want)
			}
		}
	}
}

// anyWave is a wave of that kind, anywhere within its bounds.
func anyWave(d *uint64, k byte) api.Wave {
	var sum int
	switch k {
	case '0':
		sum = 40 + draw(d, 156)
	case '1':
		sum = 196 + draw(d, 605)
	default:
		return []api.Wave{{}, {High: 20, Low: 19}, {High: 1}, {Low: 90}, {High: 500, Low: 301}, {High: -60, Low: 120}, {High: math.MaxInt, Low: math.MaxInt}}[draw(d, 7)]
	}
	high := 1 + draw(d, sum-1)
	return api.Wave{High: high, Low: sum - high}
}

// P12.6: waves a little longer or shorter, and any that are the same bits: Read tells the same, errors too.
func TestReadOtherWaves(t *testing.T) {
	d := uint64(2)
	for range 3000 {
		text := anyText(&d)
		n := draw(&d, 6)
		l := waves(text)
		wantRead(t, l, n)
		b, e, at := Read(l, n)
		for range 3 {
			near, far := slices.Clone(l), slices.Clone(l)
			for i, w := range l {
				far[i] = anyWave(&d, text[i])
				if text[i] != 'x' {
					near[i] = api.Wave{High: w.High + draw(&d, 41) - 20, Low: w.Low + draw(&d, 41) - 20}
				}
			}
			for _, other := range [][]api.Wave{near, far} {
				if b2, e2, at2 := Read(other, n); !bytes.Equal(b, b2) || e != e2 || at != at2 {
					t.Fatalf("%s: %x, %d, %d; of %v: %x, %d, %d", text, b, e, at, other, b2, e2, at2)
				}
			}
		}
	}
}

// anyText is bytes with gaps, in which now and then a wave is another one, or the tape is cut.
func anyText(d *uint64) string {
	var b strings.Builder
	for range draw(d, 6) {
		b.WriteString(twinWrite([]byte{byte(draw(d, 256))}, draw(d, 4)))
	}
	text := []byte(b.String())
	for len(text) > 0 && draw(d, 2) == 0 {
		text[draw(d, len(text))] = "01x"[draw(d, 3)]
	}
	if draw(d, 4) == 0 {
		text = text[:draw(d, len(text)+1)]
	}
	return string(text)
}

// P12.5: Read of Write is the bytes, with any leader and whatever stands behind, and as many fewer as one likes; one more is told.
func TestThereAndBack(t *testing.T) {
	d := uint64(3)
	for round := range 200 {
		b := make([]byte, draw(&d, 30))
		for i := range b {
			b[i] = byte(draw(&d, 256))
		}
		l, e := Write(b, draw(&d, 20))
		if e != api.OK {
			t.Fatal(e)
		}
		behind := []string{"", "0", "000000", "x", "1", "xx1x0", "1000000000", strings.Repeat("1", 9)}[round%8]
		if behind == "" {
			wantRead(t, l, len(b)+1)
		}
		l = append(l, waves(behind)...)
		for n := range len(b) + 1 {
			if got, e, at := Read(l, n); !bytes.Equal(got, b[:n]) || e != api.OK || at != 0 {
				t.Fatalf("%d of %x: %x, %d, %d", n, b, got, e, at)
			}
		}
	}
}

// P12.2, P12.5: the most bytes, and one more than there are; each byte value.
func TestReadMost(t *testing.T) {
	b := make([]byte, 16384)
	for i := range b {
		b[i] = byte(i)
	}
	l, e := Write(b, 16384)
	if e != api.OK {
		t.Fatal(e)
	}
	for _, n := range []int{0, 1, 256, 16383, 16384} {
		if got, e, at := Read(l, n); !bytes.Equal(got, b[:n]) || e != api.OK || at != 0 {
			t.Errorf("%d bytes: %d of them, %d, %d", n, len(got), e, at)
		}
	}
	for _, n := range []int{-1, 16385} {
		if got, e, at := Read(l, n); len(got) != 0 || e != api.ErrArg || at != 0 {
			t.Errorf("%d bytes: %d of them, %d, %d", n, len(got), e, at)
		}
	}
	if got, e, at := Read(l[:len(l)-1], 16384); len(got) != 0 || e != api.ErrTapeEnd || at != 16384+163840-1 {
		t.Errorf("the last wave lacks: %d bytes, %d, %d", len(got), e, at)
	}
	// A tape may be longer than any that Write writes.
	long := append(slices.Repeat(waves("0"), 1<<20), l...)
	if got, e, at := Read(long, 16384); !bytes.Equal(got, b) || e != api.OK || at != 0 {
		t.Errorf("behind a long leader: %d bytes, %d, %d", len(got), e, at)
	}
}

// A byte's bits are told one by one, till no more are wanted; a second range begins at the front again.
func TestBitsOf(t *testing.T) {
	told := bitsOf(0x16)
	all := "1" + "01101000" + "0"
	for most := range 12 {
		got := ""
		for bit := range told {
			if len(got) == most {
				break
			}
			got += fmt.Sprint(bit)
		}
		if want := all[:min(most, 10)]; got != want {
			t.Errorf("%d bits: %s; want %s", most, got, want)
		}
	}
}

// What is wrong with a tape is an error value that says where, also where another error wraps it.
func TestFault(t *testing.T) {
	_, err := (&head{waves: waves("0x")}).bytes(1)
	var wrong fault
	if !errors.As(errors.Join(err), &wrong) || wrong != (fault{api.ErrTapeWave, 1}) {
		t.Errorf("a wave that is no bit: %v", err)
	}
	if got, want := err.Error(), "tape: error 120 at wave 1"; got != want {
		t.Errorf("its text is %q; want %q", got, want)
	}
}
