package sprite

import (
	"bytes"
	"testing"
	"unsafe"

	"vesper/api"
)

// over is a text whose bytes may be written over behind a call.
func over(b []byte) string { return unsafe.String(unsafe.SliceData(b), len(b)) }

// spoil writes over bytes and all the room behind their end, and makes them grow.
func spoil(b []byte) {
	room := b[:cap(b)]
	for k := range room {
		room[k] ^= 0xff
	}
	_ = append(b, 0x77, 0x77, 0x77)
	_ = append(room, 0x77)
}

// roomy is a copy with room behind its end.
func roomy(b []byte) []byte {
	return append(make([]byte, 0, len(b)+40), b...)
}

// R5: Draw changes neither page nor rows nor the room behind them; its answer is its own, though page, rows and other answers are written over.
func TestDrawOwnMemory(t *testing.T) {
	d := uint64(7)
	for range 2000 {
		x, y := byte(draw(&d, 256)), byte(draw(&d, 256))
		wasPage, wasRows := anyBytes(&d, 256), anyBytes(&d, draw(&d, 16))
		page, rows := roomy(wasPage), roomy(wasRows)
		want, wantGone := twinDraw(wasPage, x, y, wasRows)
		ahead, _, _ := Draw(page, x, y, rows)
		kept, gone, e := Draw(page, x, y, rows)
		behind, _, _ := Draw(page, x, y, rows)
		if !bytes.Equal(page, wasPage) || !bytes.Equal(rows, wasRows) {
			t.Fatalf("page and rows are now %x, %x; they were %x, %x", page, rows, wasPage, wasRows)
		}
		room := append(page[256:cap(page)], rows[len(rows):cap(rows)]...)
		if !bytes.Equal(room, make([]byte, len(room))) {
			t.Fatalf("the room behind the page and the rows is now %x", room)
		}
		for _, b := range [][]byte{ahead, behind, page, rows} {
			spoil(b)
		}
		if !bytes.Equal(kept, want) || gone != wantGone || e != api.OK {
			t.Fatalf("Draw at %d, %d of %x on %x: %x, %t, %d; want %x, %t", x, y, wasRows, wasPage, kept, gone, e, want, wantGone)
		}
		spoil(kept)
		wantDraw(t, wasPage, x, y, wasRows, want, wantGone)
	}
}

// R5: no rows: the answer is still no piece of the page.
func TestUndrawnOwnMemory(t *testing.T) {
	for _, was := range mixed() {
		page := roomy(was)
		kept, _, _ := Draw(page, 1, 2, nil)
		spoil(page)
		if !bytes.Equal(kept, was) {
			t.Fatalf("Draw of no rows: %x; want %x", kept, was)
		}
		page = roomy(was)
		other, _, _ := Draw(page, 1, 2, nil)
		spoil(other)
		if !bytes.Equal(page, was) {
			t.Fatalf("the page is now %x; it was %x", page, was)
		}
	}
}

// R5: texts and pages of Show and Read are their own.
func TestTextOwnMemory(t *testing.T) {
	d := uint64(8)
	for range 1000 {
		was := anyBytes(&d, 256)
		page, want := roomy(was), twinShow(was)
		shown, e := Show(page)
		if !bytes.Equal(page, was) || e != api.OK {
			t.Fatalf("the page is now %x (%d); it was %x", page, e, was)
		}
		spoil(page)
		if shown != want {
			t.Fatalf("Show of %x: %q", was, shown)
		}
		text := []byte(want)
		ahead, _ := Read(over(text))
		kept, e := Read(over(text))
		behind, _ := Read(over(text))
		if string(text) != want {
			t.Fatalf("the text is now %q; it was %q", text, want)
		}
		for _, b := range [][]byte{ahead, behind, text} {
			spoil(b)
		}
		if !bytes.Equal(kept, was) || e != api.OK {
			t.Fatalf("Read of %q: %x, %d", want, kept, e)
		}
		spoil(kept)
		wantText(t, was, want)
	}
}

// R5: a picture that is written over is not the next answer's.
func TestDigitOwnMemory(t *testing.T) {
	for n, want := range chapterDigits() {
		p := Digit(n)
		spoil(p[:])
		if again := Digit(n); again != want {
			t.Errorf("Digit(%d) asked anew: %x; want %x", n, again, want)
		}
	}
}

// R6: what is refused leaves nothing behind.
func TestAskedTwice(t *testing.T) {
	d := uint64(9)
	for range 500 {
		page, rows := anyBytes(&d, 256), anyBytes(&d, 15)
		wantTwin(t, page, 60, 20, rows)
		wantNoDraw(t, page, 60, 20, append(rows, 1))
		wantNoDraw(t, page[:255], 60, 20, rows)
		wantNoText(t, twinShow(page)[1:])
		wantTwin(t, page, 60, 20, rows)
		wantText(t, page, twinShow(page))
	}
}
