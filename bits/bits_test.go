package bits

import (
	"math"
	"testing"

	"vesper/api"
)

// P1.2: ordinary words and their edges.
func TestBytesOfWords(t *testing.T) {
	for _, x := range []struct {
		w         uint16
		high, low byte
	}{
		{0x0000, 0x00, 0x00}, {0x0001, 0x00, 0x01}, {0x00ff, 0x00, 0xff}, {0x0100, 0x01, 0x00},
		{0x12ab, 0x12, 0xab}, {0x7fff, 0x7f, 0xff}, {0x8000, 0x80, 0x00}, {0xff00, 0xff, 0x00}, {0xffff, 0xff, 0xff},
	} {
		if High(x.w) != x.high || Low(x.w) != x.low {
			t.Errorf("%04x: %02x, %02x", x.w, High(x.w), Low(x.w))
		}
		if got := Word(x.high, x.low); got != x.w {
			t.Errorf("Word(%02x, %02x) = %04x", x.high, x.low, got)
		}
	}
}

// P1.5: every word is the word of its bytes, and every two bytes are those of their word.
func TestWordsThereAndBack(t *testing.T) {
	for n := range 65536 {
		w := uint16(n)
		if got := Word(High(w), Low(w)); got != w {
			t.Fatalf("%04x comes back as %04x", w, got)
		}
		high, low := byte(n/256), byte(n%256)
		if v := Word(high, low); High(v) != high || Low(v) != low {
			t.Fatalf("%02x, %02x come back as %02x, %02x", high, low, High(v), Low(v))
		}
	}
}

// P1.3: numbers that have so many digits.
func TestHex(t *testing.T) {
	for _, x := range []struct {
		n, digits int
		want      string
	}{
		{0, 1, "0"}, {9, 1, "9"}, {10, 1, "a"}, {15, 1, "f"}, {15, 2, "0f"}, {255, 2, "ff"}, {256, 3, "100"},
		{2748, 4, "0abc"}, {0xdef, 3, "def"}, {0x6789, 4, "6789"}, {0x12345, 5, "12345"},
		{0, 8, "00000000"}, {1, 8, "00000001"}, {0x7fffffff, 8, "7fffffff"}, {0x80000000, 8, "80000000"}, {0xffffffff, 8, "ffffffff"},
	} {
		if got := Hex(x.n, x.digits); got != x.want {
			t.Errorf("Hex(%d, %d) = %q, wanted %q", x.n, x.digits, got, x.want)
		}
	}
}

// P1.3: nothing is told of other counts of digits, of numbers below 0 and of those that have more digits.
func TestHexOfNothing(t *testing.T) {
	for _, digits := range []int{0, -1, 9, 10, 16, 64, math.MaxInt, math.MinInt} {
		for _, n := range []int{0, 1, 255, -1} {
			if got := Hex(n, digits); got != "" {
				t.Errorf("Hex(%d, %d) = %q", n, digits, got)
			}
		}
	}
	for digits := 1; digits <= 8; digits++ {
		most := 1<<(4*digits) - 1
		if got := Hex(most, digits); len(got) != digits {
			t.Errorf("Hex(%d, %d) = %q", most, digits, got)
		}
		for _, n := range []int{most + 1, math.MaxInt, -1, -most, -most - 1, math.MinInt} {
			if got := Hex(n, digits); got != "" {
				t.Errorf("Hex(%d, %d) = %q", n, digits, got)
			}
		}
	}
}

// P1.4: one to eight small digits.
func TestNumber(t *testing.T) {
	for _, x := range []struct {
		s    string
		want int
	}{
		{"0", 0}, {"1", 1}, {"9", 9}, {"a", 10}, {"f", 15}, {"00", 0}, {"0f", 15}, {"ff", 255}, {"100", 256}, {"0abc", 2748},
		{"def", 0xdef}, {"6789", 0x6789}, {"1234567", 0x1234567}, {"00000000", 0}, {"12345678", 0x12345678}, {"80000000", 1 << 31}, {"ffffffff", 1<<32 - 1},
	} {
		if n, e := Number(x.s); n != x.want || e != api.OK {
			t.Errorf("Number(%q) = %d, %d, wanted %d", x.s, n, e, x.want)
		}
	}
}

// P1.4: every other text.
func TestNumberOfNoDigits(t *testing.T) {
	for _, s := range []string{
		"", "123456789", "000000000", "ffffffff0", "FF", "A", "F", "fF", "aB", "g", "z", "G", "/", ":", "`", "@",
		" ", " 1", "1 ", "1 2", "-1", "+1", "0x1", "1h", "1_0", "1.0", "1\n", "\x00", "1\x00",
		"\xff", "1\xff", "é", "１", "٣", "aé", "€1", "\U0001d7d8",
	} {
		if n, e := Number(s); n != 0 || e != api.ErrArg {
			t.Errorf("Number(%q) = %d, %d", s, n, e)
		}
	}
}

// P1.4: of all signs of one byte just sixteen are digits, ahead of another one and behind it, too.
func TestNumberOfOneSign(t *testing.T) {
	for b := range 256 {
		sign := string([]byte{byte(b)})
		small := b >= '0' && b <= '9' || b >= 'a' && b <= 'f'
		for _, s := range []string{sign, "0" + sign, sign + "0", "000" + sign + "0000"} {
			if n, e := Number(s); small != (e == api.OK) || !small && (n != 0 || e != api.ErrArg) {
				t.Errorf("Number(%q) = %d, %d", s, n, e)
			}
		}
	}
}

// P1.5: Number of Hex is the number.
func TestNumberOfHex(t *testing.T) {
	for digits := 1; digits <= 8; digits++ {
		top := 1 << (4 * digits)
		for n := 0; n < top; n += 1 + n/7 {
			for _, m := range []int{n, top - 1 - n} {
				s := Hex(m, digits)
				if got, e := Number(s); got != m || e != api.OK || len(s) != digits {
					t.Fatalf("Number(Hex(%d, %d)) = %d, %d by %q", m, digits, got, e, s)
				}
			}
		}
	}
}

// P1.5: Hex of Number is the text.
func TestHexOfNumber(t *testing.T) {
	for _, s := range []string{"0", "9", "a", "f", "00", "0f", "f0", "09a", "00ff", "beef", "0c0de", "00abcd", "1000000", "00000000", "0000000f", "89abcdef", "fedcba98", "ffffffff"} {
		n, e := Number(s)
		if e != api.OK {
			t.Fatalf("Number(%q): %d", s, e)
		}
		if got := Hex(n, len(s)); got != s {
			t.Errorf("Hex(Number(%q)) = %q", s, got)
		}
	}
}
