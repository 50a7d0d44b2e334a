package sprite

import (
	"bytes"
	"encoding/binary"
	"encoding/hex"
	"fmt"
	"strings"
	"testing"

	"vesper/api"
)

// draw is a number below n, of a fixed row of numbers.
func draw(d *uint64, n int) int {
	*d = *d*6364136223846793005 + 1442695040888963407
	return int(*d >> 33 % uint64(n))
}

// anyBytes are so many bytes of all kinds.
func anyBytes(d *uint64, n int) []byte {
	b := make([]byte, n)
	for k := range b {
		b[k] = byte(draw(d, 256))
	}
	return b
}

// filled is a page whose bytes are all the same.
func filled(b byte) []byte { return bytes.Repeat([]byte{b}, 256) }

// with is a page that is 0 but for these bytes.
func with(m map[int]byte) []byte {
	page := make([]byte, 256)
	for at, b := range m {
		page[at] = b
	}
	return page
}

// mixed are pages all off, all on, and of all kinds between.
func mixed() [][]byte {
	d := uint64(1)
	return [][]byte{filled(0), filled(0xff), anyBytes(&d, 256), filled(0xaa), filled(0x55)}
}

// twinRows are a page's rows as numbers of 64 bits.
func twinRows(page []byte) [32]uint64 {
	var r [32]uint64
	for j := range r {
		r[j] = binary.BigEndian.Uint64(page[8*j:])
	}
	return r
}

// twinDraw lays whole rows on a page at once: a row is shifted to its place, and what is shifted out is left out.
func twinDraw(page []byte, x, y byte, rows []byte) ([]byte, bool) {
	all, gone := twinRows(page), false
	for k, b := range rows {
		j := int(y&31) + k
		if j > 31 {
			break
		}
		laid := uint64(b) << 56 >> (x & 63)
		gone = gone || all[j]&laid != 0
		all[j] ^= laid
	}
	var out []byte
	for _, r := range all {
		out = binary.BigEndian.AppendUint64(out, r)
	}
	return out, gone
}

// twinShow writes each row to the base two.
func twinShow(page []byte) string {
	var s string
	for _, r := range twinRows(page) {
		s += fmt.Sprintf("%064b\n", r)
	}
	return strings.NewReplacer("0", ".", "1", "#").Replace(s)
}

// wantDraw: Draw answers just this page, and this of a dot that went out.
func wantDraw(t *testing.T, page []byte, x, y byte, rows, want []byte, gone bool) {
	t.Helper()
	if p, g, e := Draw(page, x, y, rows); !bytes.Equal(p, want) || g != gone || e != api.OK {
		t.Fatalf("Draw at %d, %d of %x on %x: %x, %t, %d; want %x, %t", x, y, rows, page, p, g, e, want, gone)
	}
}

// wantTwin: Draw answers what the twin does.
func wantTwin(t *testing.T, page []byte, x, y byte, rows []byte) {
	t.Helper()
	want, gone := twinDraw(page, x, y, rows)
	wantDraw(t, page, x, y, rows, want, gone)
}

// wantNoDraw: Draw answers ErrArg alone.
func wantNoDraw(t *testing.T, page []byte, x, y byte, rows []byte) {
	t.Helper()
	if p, g, e := Draw(page, x, y, rows); len(p) != 0 || g || e != api.ErrArg {
		t.Errorf("Draw at %d, %d of %d rows on %d bytes: %d bytes, %t, %d", x, y, len(rows), len(page), len(p), g, e)
	}
}

// wantText: Show of the page is the text, Read of the text the page.
func wantText(t *testing.T, page []byte, text string) {
	t.Helper()
	if s, e := Show(page); s != text || e != api.OK {
		t.Fatalf("Show of %x: %q, %d; want %q", page, s, e, text)
	}
	if p, e := Read(text); !bytes.Equal(p, page) || e != api.OK {
		t.Fatalf("Read of %q: %x, %d; want %x", text, p, e, page)
	}
}

// wantNoText: Read answers ErrArg alone.
func wantNoText(t *testing.T, text string) {
	t.Helper()
	if p, e := Read(text); len(p) != 0 || e != api.ErrArg {
		t.Errorf("Read of %.300q (%d bytes): %x, %d", text, len(text), p, e)
	}
}

// P17.1: the chapter's rows of Draw.
func TestDrawExamples(t *testing.T) {
	none := filled(0)
	wantDraw(t, none, 0, 0, []byte{0x81}, with(map[int]byte{0: 0x81}), false)
	first, _, _ := Draw(none, 0, 0, []byte{0x81})
	wantDraw(t, first, 4, 0, []byte{0x18}, with(map[int]byte{0: 0x80, 1: 0x80}), true)
	wantDraw(t, none, 62, 31, []byte{0xff, 0xff}, with(map[int]byte{255: 0x03}), false)
	wantDraw(t, none, 64, 32, []byte{0x80}, with(map[int]byte{0: 0x80}), false)
	wantDraw(t, none, 255, 255, []byte{0xff}, with(map[int]byte{255: 0x01}), false)
	wantDraw(t, none, 0, 0, nil, none, false)
	wantNoDraw(t, none, 0, 0, make([]byte, 16))
	wantNoDraw(t, make([]byte, 255), 0, 0, nil)
	wantNoDraw(t, make([]byte, 255), 0, 0, []byte{0x80})
}

// P17.3: the chapter's row of Read.
func TestReadExamples(t *testing.T) {
	wantNoText(t, strings.Repeat(strings.Repeat(".", 63)+"\n", 32))
	text, _ := Show(filled(0))
	wantNoText(t, text[:len(text)-1])
}

// chapter is the table of the digits' pictures.
const chapter = `
| 0 | f0 90 90 90 f0 | | 4 | 90 90 f0 10 10 | | 8 | f0 90 f0 90 f0 | | c | f0 80 80 80 f0 |
| 1 | 20 60 20 20 70 | | 5 | f0 80 f0 10 f0 | | 9 | f0 90 f0 10 f0 | | d | e0 90 90 90 e0 |
| 2 | f0 10 f0 80 f0 | | 6 | f0 80 f0 90 f0 | | a | f0 90 f0 90 90 | | e | f0 80 f0 80 f0 |
| 3 | f0 10 f0 10 f0 | | 7 | f0 10 10 10 10 | | b | e0 90 e0 90 e0 | | f | f0 80 f0 80 80 |
`

// chapterDigits are the pictures of that table.
func chapterDigits() map[byte][5]byte {
	out := map[byte][5]byte{}
	for _, line := range strings.Split(strings.TrimSpace(chapter), "\n") {
		for _, cells := range strings.Split(strings.Trim(line, "| "), " | | ") {
			n, rows, _ := strings.Cut(cells, " | ")
			b, err := hex.DecodeString("0" + n + strings.ReplaceAll(rows, " ", ""))
			if err != nil {
				panic(err)
			}
			out[b[0]] = [5]byte(b[1:])
		}
	}
	return out
}

// P17.2: each picture, row by row.
func TestDigits(t *testing.T) {
	digits := chapterDigits()
	if len(digits) != 16 {
		t.Fatalf("the table has %d digits", len(digits))
	}
	for n, want := range digits {
		if p := Digit(n); p != want {
			t.Errorf("Digit(%d): %x; want %x", n, p, want)
		}
	}
}

// P17.2: a digit's dots are its left four, and no two digits look alike.
func TestDigitsApart(t *testing.T) {
	seen := map[[5]byte]byte{}
	for n := range byte(16) {
		p := Digit(n)
		if other, twice := seen[p]; twice {
			t.Errorf("%d and %d are both %x", other, n, p)
		}
		seen[p] = n
		for k, row := range p {
			if row&0x0f != 0 || row == 0 {
				t.Errorf("row %d of %d: %02x", k, n, row)
			}
		}
	}
}

// P17.2: above 15 there is no picture.
func TestNoDigits(t *testing.T) {
	for n := 16; n < 256; n++ {
		if p := Digit(byte(n)); p != [5]byte{} {
			t.Errorf("Digit(%d): %x", n, p)
		}
	}
}

// P17.1, P17.2, P17.3: the digit 7 at 4, 8, as the document shows it.
func TestDigitOnPage(t *testing.T) {
	rows := Digit(7)
	page, gone, e := Draw(filled(0), 4, 8, rows[:])
	if gone || e != api.OK {
		t.Fatalf("Draw: %t, %d", gone, e)
	}
	dark := strings.Repeat(".", 64) + "\n"
	right := strings.Repeat(".", 56) + "\n"
	want := strings.Repeat(dark, 8) + "....####" + right + strings.Repeat(".......#"+right, 4) + strings.Repeat(dark, 19)
	wantText(t, page, want)
}
