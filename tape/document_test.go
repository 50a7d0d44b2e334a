package tape

import (
	"fmt"
	"math/big"
	"regexp"
	"slices"
	"strconv"
	"strings"
	"testing"

	"vesper/api"
)

// draw is a number below n, of a fixed row of numbers.
func draw(d *uint64, n int) int {
	*d = *d*6364136223846793005 + 1442695040888963407
	return int(*d >> 33 % uint64(n))
}

// kind is what a wave is, by the chapter's words: 0, 1, or x, if it is no bit.
func kind(w api.Wave) byte {
	sum := new(big.Int).Add(big.NewInt(int64(w.High)), big.NewInt(int64(w.Low)))
	most := func(n int64) bool { return sum.Cmp(big.NewInt(n)) <= 0 }
	switch {
	case w.High < 1, w.Low < 1, most(39), !most(800):
		return 'x'
	case most(195):
		return '0'
	}
	return '1'
}

// drawing is a tape as a text, a letter a wave.
func drawing(l []api.Wave) string {
	var b strings.Builder
	for _, w := range l {
		b.WriteByte(kind(w))
	}
	return b.String()
}

// waves is a tape of a drawing, bits as they are written.
func waves(text string) []api.Wave {
	var l []api.Wave
	for _, c := range text {
		switch c {
		case '0':
			l = append(l, api.Wave{High: 56, Low: 56})
		case '1':
			l = append(l, api.Wave{High: 140, Low: 140})
		default:
			l = append(l, api.Wave{High: 19, Low: 20})
		}
	}
	return l
}

// nine is a byte's bits in a drawing, the lowest first, and the one that makes the ones odd.
func nine(b byte) string {
	text := backward(fmt.Sprintf("%08b", b))
	if strings.Count(text, "1")%2 == 0 {
		return text + "1"
	}
	return text + "0"
}

func backward(s string) string {
	b := []byte(s)
	slices.Reverse(b)
	return string(b)
}

// twinWrite is what Write writes, as a drawing.
func twinWrite(b []byte, leader int) string {
	var text strings.Builder
	text.WriteString(strings.Repeat("0", leader))
	for _, v := range b {
		text.WriteString("1" + nine(v))
	}
	return text.String()
}

var (
	wholeByte = regexp.MustCompile(`^0*1([01]{8})([01])`)
	begunByte = regexp.MustCompile(`^0*(1[01]{0,8})?`)
)

// twinRead is Read of a drawing, by the words of P12.2.
func twinRead(text string, n int) ([]byte, api.Errno, int) {
	if n < 0 || n > 16384 {
		return nil, api.ErrArg, 0
	}
	var out []byte
	at := 0
	for range n {
		m := wholeByte.FindStringSubmatch(text[at:])
		if m == nil {
			at += len(begunByte.FindString(text[at:]))
			if at == len(text) {
				return nil, api.ErrTapeEnd, at
			}
			return nil, api.ErrTapeWave, at
		}
		at += len(m[0])
		if strings.Count(m[1]+m[2], "1")%2 == 0 {
			return nil, api.ErrTapeOdd, at - 1
		}
		v, _ := strconv.ParseUint(backward(m[1]), 2, 8)
		out = append(out, byte(v))
	}
	return out, api.OK, 0
}

// twinHeard is Heard of a script that may be: its cycles are drawn, and looked through.
func twinHeard(l []api.Span) []api.Wave {
	var b strings.Builder
	for _, s := range l {
		level := "_"
		if s.Tape {
			level = "#"
		}
		b.WriteString(strings.Repeat(level, s.Cycles))
	}
	var out []api.Wave
	rest := strings.TrimLeft(b.String(), "_")
	for rest != "" {
		low := strings.TrimLeft(rest, "#")
		next := strings.TrimLeft(low, "_")
		out = append(out, api.Wave{High: len(rest) - len(low), Low: len(low) - len(next)})
		rest = next
	}
	return out
}

// wantRead holds Read against the twin.
func wantRead(t *testing.T, l []api.Wave, n int) {
	t.Helper()
	text := drawing(l)
	got, e, at := Read(l, n)
	want, wantE, wantAt := twinRead(text, n)
	if !slices.Equal(got, want) || e != wantE || at != wantAt {
		t.Fatalf("Read of %.200s, %d: %.60x, %d, %d; want %.60x, %d, %d", text, n, got, e, at, want, wantE, wantAt)
	}
}

// wantHeard holds Heard against the twin.
func wantHeard(t *testing.T, l []api.Span) {
	t.Helper()
	got, e := Heard(l)
	if want := twinHeard(l); e != api.OK || !slices.Equal(got, want) {
		t.Fatalf("Heard of %.300v: %.300v, %d; want %.300v", l, got, e, want)
	}
}
