package frame

import (
	"math"
	"slices"
	"strconv"
	"strings"
	"testing"

	"vesper/api"
)

// full is a frame of 1024 bytes, each row another one.
func full() api.Frame {
	f := api.Frame{Rows: make([][]byte, 128)}
	for k := range f.Rows {
		for i := range 8 {
			f.Rows[k] = append(f.Rows[k], byte(k*37+i*59+k/7))
		}
	}
	return f
}

// anyFrame has rows of any length; each third one is full but for at most one row.
func anyFrame(d *uint64) api.Frame {
	f := api.Frame{Rows: make([][]byte, 128)}
	cut, sum := draw(d, 3), 0
	for k := range f.Rows {
		n := 8
		if cut == 0 || cut == 1 && k == 90 {
			n = draw(d, 9)
		}
		for range n {
			f.Rows[k] = append(f.Rows[k], byte(draw(d, 256)))
		}
		sum += n
	}
	f.Short = sum < 1024
	return f
}

// wrongFrames may not be; each has one thing wrong with it, but for the last ones.
func wrongFrames() map[string]api.Frame {
	out := map[string]api.Frame{"zero": {}, "zero but short": {Short: true}}
	add := func(name string, f api.Frame, change func(f *api.Frame)) {
		change(&f)
		out[name] = f
	}
	add("From -1", full(), func(f *api.Frame) { f.From = -1 })
	add("From far below 0", full(), func(f *api.Frame) { f.From = math.MinInt })
	add("From -1, short", empty(), func(f *api.Frame) { f.From = -1 })
	add("127 rows", empty(), func(f *api.Frame) { f.Rows = f.Rows[:127] })
	add("127 full rows, short", full(), func(f *api.Frame) { f.Rows, f.Short = f.Rows[:127], true })
	add("127 full rows", full(), func(f *api.Frame) { f.Rows = f.Rows[:127] })
	add("129 rows", empty(), func(f *api.Frame) { f.Rows = make([][]byte, 129) })
	add("129 full rows", full(), func(f *api.Frame) { f.Rows = append(f.Rows, f.Rows[0]) })
	add("128 full rows and an empty one", full(), func(f *api.Frame) { f.Rows = append(f.Rows, nil) })
	add("many rows", empty(), func(f *api.Frame) { f.Rows = make([][]byte, 1<<20) })
	add("one row of 9 bytes", empty(), func(f *api.Frame) { f.Rows[5] = make([]byte, 9) })
	add("one row of 1024 bytes", empty(), func(f *api.Frame) { f.Rows[5], f.Short = make([]byte, 1024), false })
	add("9 bytes in the first row", full(), func(f *api.Frame) { f.Rows[0] = append(f.Rows[0], 1) })
	add("9 bytes in the last row", full(), func(f *api.Frame) { f.Rows[127] = append(f.Rows[127], 1) })
	add("9 bytes and 7", full(), func(f *api.Frame) { f.Rows[0], f.Rows[1] = make([]byte, 9), make([]byte, 7) })
	add("full, but short", full(), func(f *api.Frame) { f.Short = true })
	add("1023 bytes, not short", full(), func(f *api.Frame) { f.Rows[9] = f.Rows[9][:7] })
	add("empty, not short", empty(), func(f *api.Frame) { f.Short = false })
	add("From -1, a row of 9", full(), func(f *api.Frame) { f.From, f.Rows[3] = -1, make([]byte, 9) })
	return out
}

// rightFrames may be.
func rightFrames() map[string]api.Frame {
	out := map[string]api.Frame{"full": full(), "empty": empty()}
	lists := empty()
	for k := range lists.Rows {
		lists.Rows[k] = []byte{}
	}
	out["rows that are empty, but not nil"] = lists
	near := full()
	near.Rows[9], near.Short = near.Rows[9][:7], true
	out["1023 bytes"] = near
	for _, from := range []int{0, 1, cycles, math.MaxInt} {
		f := full()
		f.From = from
		out["From "+strconv.Itoa(from)] = f
	}
	for n := range 9 {
		f := empty()
		f.Rows[n] = slices.Repeat([]byte{0xa5, 0x01}, 4)[:n]
		out["one row of "+strconv.Itoa(n)] = f
	}
	return out
}

// P10.2, P10.4: when a frame may be.
func TestWhichFramesMayBe(t *testing.T) {
	for name, f := range wrongFrames() {
		if s, e := Show(f); s != "" || e != api.ErrArg {
			t.Errorf("Show (%s): %q, %d", name, s, e)
		}
		if p, is := Page(f); p != nil || is {
			t.Errorf("Page (%s): %x", name, p)
		}
	}
	for name, f := range rightFrames() {
		if s, e := Show(f); e != api.OK || s != twinShow(f) {
			t.Errorf("Show (%s): %q, %d", name, s, e)
		}
	}
}

// P10.2: a byte's signs, from its highest bit on; every byte, each alone in a row, there and back.
func TestSigns(t *testing.T) {
	for b, want := range map[byte]string{0: "........", 0x01: ".......#", 0x02: "......#.", 0x10: "...#....", 0x80: "#.......", 0x81: "#......#", 0xa5: "#.#..#.#", 0xf0: "####....", 0xff: "########"} {
		f := empty()
		f.Rows[127] = []byte{b}
		if s, e := Show(f); e != api.OK || s != strings.Repeat("\n", 127)+want+"\n" {
			t.Errorf("%02x: %q, %d", b, s, e)
		}
	}
	for b := range 256 {
		f := empty()
		f.Rows[b/2] = []byte{byte(b), ^byte(b)}
		wantThereAndBack(t, f)
	}
}

// P10.2: a whole frame: 128 lines of 64 signs, in the rows' order.
func TestShowFull(t *testing.T) {
	f := full()
	s, e := Show(f)
	if e != api.OK || len(s) != 128*65 {
		t.Fatalf("%d signs, %d", len(s), e)
	}
	for k, line := range strings.Split(strings.TrimSuffix(s, "\n"), "\n") {
		for i, sign := range []byte(line) {
			if on := f.Rows[k][i/8]>>(7-i%8)&1 == 1; sign != '#' && on || sign != '.' && !on {
				t.Fatalf("row %d, dot %d: %q", k, i, sign)
			}
		}
	}
	f.From = 12345
	if other, e := Show(f); e != api.OK || other != s {
		t.Errorf("From is told: %d", e)
	}
}

// wantThereAndBack: P10.7, both ways, of a frame that may be.
func wantThereAndBack(t *testing.T, f api.Frame) {
	t.Helper()
	s, e := Show(f)
	if e != api.OK || s != twinShow(f) {
		t.Fatalf("Show of %x: %q, %d", f.Rows, s, e)
	}
	back, e := Read(s)
	f.From = 0
	if e != api.OK || !sameFrame(back, f) {
		t.Fatalf("Read of %q: %v, %d", s, back, e)
	}
	if again, e := Show(back); e != api.OK || again != s {
		t.Fatalf("Show of what Read takes of %q: %q, %d", s, again, e)
	}
}

// P10.3, P10.7: frames with rows of any length, there and back.
func TestThereAndBack(t *testing.T) {
	for _, f := range rightFrames() {
		wantThereAndBack(t, f)
	}
	d, short := uint64(1), 0
	for range 300 {
		f := anyFrame(&d)
		f.From = draw(&d, 10000)
		if f.Short {
			short++
		}
		wantThereAndBack(t, f)
	}
	if short < 100 || short > 250 {
		t.Errorf("%d of 300 were short", short)
	}
}

func wantNoText(t *testing.T, name, text string) {
	t.Helper()
	if f, e := Read(text); e != api.ErrFrameText || f.From != 0 || f.Rows != nil || f.Short {
		t.Errorf("Read (%s): %v, %d", name, f, e)
	}
}

// P10.3: texts that Show writes of no frame.
func TestWrongTexts(t *testing.T) {
	whole, none := twinShow(full()), strings.Repeat("\n", 128)
	lines := func(first string, others int) string { return first + "\n" + strings.Repeat("\n", others) }
	for _, x := range []struct{ name, text string }{
		{"empty", ""},
		{"one line feed", "\n"},
		{"one line", "........\n"},
		{"no line feed", strings.Repeat("........", 8)},
		{"a line too few, empty", none[1:]},
		{"a line too many, empty", none + "\n"},
		{"two lines too many", none + "\n\n"},
		{"a line too few", whole[65:]},
		{"a line too few at its end", whole[:127*65]},
		{"a line too many", whole + whole[:65]},
		{"an empty line too many", whole + "\n"},
		{"an empty line ahead", "\n" + whole},
		{"twice", whole + whole},
		{"without its last line feed", whole[:len(whole)-1]},
		{"without its last line feed, empty rows", none[:127]},
		{"without its last line feed, a short row", none[:127] + "........"},
		{"without its first line feed", whole[:64] + whole[65:]},
		{"signs behind it", whole + "........"},
		{"one sign behind it", none + "."},
		{"a blank behind it", none + " "},
		{"a zero byte behind it", whole + "\x00"},
		{"a blank ahead of it", " " + whole},
		{"another sign", strings.Replace(whole, "#", "*", 1)},
		{"another sign alone", lines("*.......", 127)},
		{"a blank for a dot", strings.Replace(whole, ".", " ", 1)},
		{"the sign O", lines("OOOOOOOO", 127)},
		{"digits", lines("00011000", 127)},
		{"a sign of two bytes", lines("......é", 127)},
		{"eight signs of two bytes", lines("éééééééé", 127)},
		{"bytes that are no text", lines("\xff.......", 127)},
		{"a zero byte", lines("\x00.......", 127)},
		{"returns", strings.ReplaceAll(none, "\n", "\r\n")},
		{"returns for line feeds", strings.ReplaceAll(whole, "\n", "\r")},
		{"a return behind a row", lines("........\r", 127)},
		{"a seven-sign row and a return", lines(".......\r", 127)},
		{"65 signs", strings.Replace(whole, "\n", ".\n", 1)},
		{"72 signs", strings.Replace(whole, "\n", "........\n", 1)},
		{"72 signs alone", lines(strings.Repeat("#", 72), 127)},
		{"128 signs", lines(strings.Repeat("#", 128), 127)},
		{"1024 bytes in one row", lines(strings.Repeat("#", 8192), 127)},
		{"a very long line", lines(strings.Repeat(".", 1<<22), 127)},
		{"a very long line without an end", strings.Repeat(".", 1<<22)},
		{"very many lines", strings.Repeat("\n", 1<<22)},
	} {
		wantNoText(t, x.name, x.text)
	}
}

// P10.3: how many signs a line may have, in the first row, in the last one, and in one between: 0, 8, 16, .., 64, no other number.
func TestSignsOfALine(t *testing.T) {
	for _, k := range []int{0, 1, 64, 126, 127} {
		for n := range 140 {
			text := strings.Repeat("\n", k) + strings.Repeat("#", n) + strings.Repeat("\n", 128-k)
			if n%8 != 0 || n > 64 {
				wantNoText(t, "signs", text)
				continue
			}
			f, e := Read(text)
			if e != api.OK || f.From != 0 || !f.Short || len(f.Rows) != 128 || string(f.Rows[k]) != strings.Repeat("\xff", n/8) {
				t.Errorf("%d signs in row %d: %v, %d", n, k, f, e)
			}
		}
	}
}

// P10.3: every byte in a sign's place.
func TestEverySign(t *testing.T) {
	for _, place := range []int{0, 7, 63, 65, 128*65 - 2} {
		for b := range 256 {
			text := []byte(twinShow(full()))
			text[place] = byte(b)
			if b == '#' || b == '.' {
				if f, e := Read(string(text)); e != api.OK || f.Short || twinShow(f) != string(text) {
					t.Errorf("%q at %d: %d", rune(b), place, e)
				}
				continue
			}
			wantNoText(t, "a byte changed", string(text))
		}
	}
}

// P10.3: how many lines there may be: 128, no other number, whatever they are.
func TestHowManyLines(t *testing.T) {
	for n := range 300 {
		for _, line := range []string{"\n", "#......#\n", strings.Repeat("#", 64) + "\n"} {
			text := strings.Repeat(line, n)
			f, e := Read(text)
			if want := n == 128; (e == api.OK) != want || (len(f.Rows) == 128) != want {
				t.Errorf("%d lines of %q: %d", n, line, e)
			}
			if n == 128 && f.Short != (len(line) != 65) {
				t.Errorf("128 lines of %q: Short %v", line, f.Short)
			}
		}
	}
}

// P10.3, P10.7: texts with a few signs changed, put in, taken out: what is read, and just what Show writes.
func TestReadSweep(t *testing.T) {
	d, right, wrong := uint64(2), 0, 0
	for range 4000 {
		text := []byte(twinShow(anyFrame(&d)))
		for range draw(&d, 3) {
			i := draw(&d, len(text))
			switch draw(&d, 5) {
			case 0:
				text[i] = byte(draw(&d, 256))
			case 1:
				text[i] ^= '#' ^ '.'
			case 2:
				text = slices.Insert(text, i, []byte("........")[:1+7*draw(&d, 2)]...)
			case 3:
				text = slices.Delete(text, i, min(len(text), i+1+7*draw(&d, 2)))
			case 4:
				text = slices.Insert(text, i, '\n')
			}
		}
		f, e := Read(string(text))
		if !twinReads(string(text)) {
			wrong++
			if e != api.ErrFrameText || f.Rows != nil || f.Short {
				t.Fatalf("Read of %q: %v, %d", text, f, e)
			}
			continue
		}
		right++
		if e != api.OK || f.From != 0 || twinShow(f) != string(text) {
			t.Fatalf("Read of %q: %v, %d", text, f, e)
		}
		if s, e := Show(f); e != api.OK || s != string(text) {
			t.Fatalf("Show of what Read takes of %q: %q, %d", text, s, e)
		}
	}
	if right < 1000 || wrong < 1000 {
		t.Errorf("%d right, %d wrong", right, wrong)
	}
}
