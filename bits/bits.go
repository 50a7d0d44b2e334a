// Package bits is layer 1: see shared/doc/01-bits.md.
package bits

import "vesper/api"

// hexSigns are the digits to the base sixteen, each at its own worth.
const hexSigns = "0123456789abcdef"

// mostDigits keeps every number that is told or read within 32 bits.
const mostDigits = 8

// Do is what the arithmetic unit makes of D, a byte and DF.
func Do(s api.Sum, d, b byte, df bool) (byte, bool) {
	table := rows()
	if int(s) >= len(table) {
		return 0, false
	}
	r := table[s]
	x, y, c := int(d), int(b), worth(df)
	return byte(r.value(x, y, c)), r.flag(x, y, c)
}

func worth(df bool) int {
	if df {
		return 1
	}
	return 0
}

// High and Low are the two bytes of a word, Word is the word of two.
func High(w uint16) byte { return byte(w >> 8) }

func Low(w uint16) byte { return byte(w) }

func Word(high, low byte) uint16 { return uint16(high)<<8 | uint16(low) }

// Hex is a number with so many digits to the base sixteen.
func Hex(n int, digits int) string {
	if digits < 1 || digits > mostDigits || n < 0 {
		return ""
	}
	text := make([]byte, digits)
	for i := digits - 1; i >= 0; i-- {
		text[i] = hexSigns[n&15]
		n >>= 4
	}
	if n != 0 {
		return ""
	}
	return string(text)
}

// Number reads digits to the base sixteen.
func Number(s string) (int, api.Errno) {
	if len(s) < 1 || len(s) > mostDigits {
		return 0, api.ErrArg
	}
	n := 0
	for _, r := range s {
		v, ok := digit(r)
		if !ok {
			return 0, api.ErrArg
		}
		n = n<<4 | v
	}
	return n, api.OK
}

func digit(r rune) (int, bool) {
	switch {
	case '0' <= r && r <= '9':
		return int(r - '0'), true
	case 'a' <= r && r <= 'f':
		return int(r-'a') + 10, true
	}
	return 0, false
}
