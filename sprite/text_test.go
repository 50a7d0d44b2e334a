package sprite

import (
	"bytes"
	"strings"
	"testing"

	"vesper/api"
)

// P17.3: which pages have a text.
func TestShowOfNoPage(t *testing.T) {
	for _, page := range [][]byte{nil, {}, make([]byte, 1), make([]byte, 8), make([]byte, 255), make([]byte, 257), make([]byte, 264), make([]byte, 512), make([]byte, 1<<20), make([]byte, 255, 256), make([]byte, 512)[:0]} {
		if s, e := Show(page); s != "" || e != api.ErrArg {
			t.Errorf("Show of %d bytes: %q, %d", len(page), s, e)
		}
	}
	if s, e := Show(make([]byte, 512)[:256]); len(s) != 2080 || e != api.OK {
		t.Errorf("Show of 256 bytes with room behind them: %q, %d", s, e)
	}
}

// P17.3: all off, all on, each dot alone on and alone off, there and back.
func TestEachDotShown(t *testing.T) {
	off := strings.Repeat(strings.Repeat(".", 64)+"\n", 32)
	on := strings.Repeat(strings.Repeat("#", 64)+"\n", 32)
	wantText(t, filled(0), off)
	wantText(t, filled(0xff), on)
	for n := range 2048 {
		page, at := filled(0), n/64*65+n%64
		page[n/8] = 0x80 >> (n % 8)
		wantText(t, page, off[:at]+"#"+off[at+1:])
		for k := range page {
			page[k] ^= 0xff
		}
		wantText(t, page, on[:at]+"."+on[at+1:])
	}
}

// P17.3: the signs of a byte, from its highest bit on, in each byte of the page.
func TestSigns(t *testing.T) {
	dark := strings.Repeat(".", 8)
	for b, want := range map[byte]string{0: dark, 0x01: ".......#", 0x02: "......#.", 0x10: "...#....", 0x80: "#.......", 0x81: "#......#", 0xa5: "#.#..#.#", 0xf0: "####....", 0xff: "########"} {
		for at := range 256 {
			signs := make([]string, 256)
			for k := range signs {
				signs[k] = dark
			}
			signs[at] = want
			var text string
			for j := range 32 {
				text += strings.Join(signs[8*j:8*j+8], "") + "\n"
			}
			wantText(t, with(map[int]byte{at: b}), text)
		}
	}
}

// P17.5: pages of all kinds, there and back, and their texts.
func TestThereAndBack(t *testing.T) {
	d := uint64(6)
	for range 3000 {
		page := anyBytes(&d, 256)
		wantText(t, page, twinShow(page))
	}
	for range 3000 {
		text := make([]byte, 0, 2080)
		for range 32 {
			for range 64 {
				text = append(text, ".#"[draw(&d, 2)])
			}
			text = append(text, '\n')
		}
		page, e := Read(string(text))
		if e != api.OK {
			t.Fatalf("Read of %q: %d", text, e)
		}
		wantText(t, page, string(text))
	}
}

// texts are of pages of all kinds.
func texts() []string {
	var out []string
	for _, page := range mixed() {
		out = append(out, twinShow(page))
	}
	return out
}

// P17.3: texts with a sign other than the two, in each place; with all other bytes in some.
func TestOtherSigns(t *testing.T) {
	signs := []byte{'.', '#', '\n', '\r', ' ', 0, 0xff, 'x', '0', '1', ',', '/', '$', '"'}
	for _, text := range texts()[:3] {
		for at := range text {
			for _, sign := range signs {
				changed := text[:at] + string([]byte{sign}) + text[at+1:]
				if at%65 != 64 && (sign == '.' || sign == '#') {
					page, e := Read(changed)
					if e != api.OK || twinShow(page) != changed {
						t.Fatalf("Read of %q: %x, %d", changed, page, e)
					}
				} else if changed != text {
					wantNoText(t, changed)
				}
			}
		}
		for _, at := range []int{0, 1, 63, 64, 65, 1000, 2078, 2079} {
			for b := range 256 {
				if b != '.' && b != '#' && b != '\n' {
					wantNoText(t, text[:at]+string([]byte{byte(b)})+text[at+1:])
				}
			}
		}
	}
}

// P17.3: signs of more than one byte: as many bytes, or as many signs.
func TestWideSigns(t *testing.T) {
	for _, text := range texts() {
		for _, sign := range []string{"é", "＃", "•", "█", "\xc3\x28"} {
			wantNoText(t, sign+text[1:])
			wantNoText(t, sign+text[len(sign):])
			wantNoText(t, text[:1000]+sign+text[1000+len(sign):])
		}
	}
}

// P17.3: a line feed too many at each place, each one too few, each one a place off.
func TestLineFeeds(t *testing.T) {
	for _, text := range texts() {
		for at := range len(text) + 1 {
			wantNoText(t, text[:at]+"\n"+text[at:])
		}
		for j := range 32 {
			at := 65*j + 64
			wantNoText(t, text[:at]+text[at+1:])
			wantNoText(t, text[:at]+"."+text[at+1:])
			wantNoText(t, text[:at]+"\r\n"+text[at+1:])
			wantNoText(t, text[:at-1]+"\r\n"+text[at+1:])
			wantNoText(t, text[:at-1]+"\n"+text[at-1:at]+text[at+1:])
			if j < 31 {
				wantNoText(t, text[:at]+text[at+1:at+2]+"\n"+text[at+2:])
				wantNoText(t, text[:at]+text[at+1:]+"\n")
			}
			wantNoText(t, "\n"+text[:at]+text[at+1:])
		}
		wantNoText(t, strings.ReplaceAll(text, "\n", ""))
		wantNoText(t, strings.ReplaceAll(text, "\n", "\r\n"))
		wantNoText(t, strings.ReplaceAll(text, "\n", "\r"))
		wantNoText(t, "\n"+text[:len(text)-1])
	}
}

// P17.3: lines of 63 and 65 signs, all of them, one, and one of each.
func TestLinesOfOtherLengths(t *testing.T) {
	for _, sign := range []string{".", "#"} {
		line := func(n int) string { return strings.Repeat(sign, n) + "\n" }
		for _, n := range []int{0, 1, 32, 63, 65, 66, 128} {
			wantNoText(t, strings.Repeat(line(n), 32))
			for j := range 32 {
				wantNoText(t, strings.Repeat(line(64), j)+line(n)+strings.Repeat(line(64), 31-j))
			}
		}
		for j := range 31 {
			wantNoText(t, strings.Repeat(line(64), j)+line(63)+line(65)+strings.Repeat(line(64), 30-j))
			wantNoText(t, strings.Repeat(line(64), j)+line(65)+line(63)+strings.Repeat(line(64), 30-j))
		}
		// As many bytes as a page's text, in other lines.
		wantNoText(t, strings.Repeat(line(129), 16))
		wantNoText(t, strings.Repeat(line(31), 65))
		wantNoText(t, strings.Repeat(line(15), 130))
		wantNoText(t, line(2079))
	}
}

// P17.3: 31 and 33 lines and other numbers of them; none; without the last line feed; cut off anywhere.
func TestOtherNumbersOfLines(t *testing.T) {
	for _, text := range texts() {
		for _, n := range []int{0, 1, 16, 31, 33, 64, 128, 10000} {
			wantNoText(t, strings.Repeat(text[:65], n))
		}
		for at := range text {
			wantNoText(t, text[:at])
			wantNoText(t, text[len(text)-at:])
		}
		wantNoText(t, text+".")
		wantNoText(t, text+" ")
		wantNoText(t, text+"\x00")
		wantNoText(t, " "+text)
		wantNoText(t, text+text)
	}
	wantNoText(t, "")
	wantNoText(t, "\n")
	wantNoText(t, strings.Repeat("\n", 32))
	wantNoText(t, strings.Repeat("\n", 2080))
	wantNoText(t, strings.Repeat(".", 2080))
	wantNoText(t, strings.Repeat("#", 2048))
	wantNoText(t, strings.Repeat("\xff", 1<<20))
}

// P17.1, P17.3: a page that was read is drawn on as any other one.
func TestDrawOnReadPage(t *testing.T) {
	for _, page := range mixed() {
		read, e := Read(twinShow(page))
		if e != api.OK {
			t.Fatalf("Read: %d", e)
		}
		want, gone := twinDraw(page, 30, 10, []byte{0x18, 0x24})
		wantDraw(t, read, 30, 10, []byte{0x18, 0x24}, want, gone)
		drawn, _, _ := Draw(read, 30, 10, []byte{0x18, 0x24})
		wantText(t, drawn, twinShow(want))
		if !bytes.Equal(read, page) {
			t.Fatalf("the page is now %x; it was %x", read, page)
		}
	}
}
