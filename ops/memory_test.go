package ops

import (
	"bytes"
	"slices"
	"strings"
	"testing"
	"unsafe"

	"vesper/api"
)

// over is a text whose bytes may be written over behind a call.
func over(b []byte) string { return unsafe.String(unsafe.SliceData(b), len(b)) }

// spoil writes over bytes and all the room behind their end, and makes them grow.
func spoil(b []byte) {
	room := b[:cap(b)]
	for k := range room {
		room[k] ^= 0xff
	}
	_ = append(b, 0x77, 0x77, 0x77)
	_ = append(room, 0x77)
}

// R5: an answer of Program is its own: the text's bytes and other answers are written over and grown, and it stays; the text is not changed by the call.
func TestProgramOwnMemory(t *testing.T) {
	d := uint64(7)
	for range 500 {
		lines := randomLines(&d, 30)
		text := []byte(dressed(&d, lines) + "\n")
		was := slices.Clone(text)
		want, _, _ := twinProgram(string(text))
		ahead, _, _ := Program(over(text))
		kept, e, at := Program(over(text))
		behind, _, _ := Program(over(text))
		if !bytes.Equal(text, was) {
			t.Fatalf("the text is now %q", text)
		}
		spoil(ahead)
		spoil(behind)
		for k := range text {
			text[k] = '!'
		}
		if !bytes.Equal(kept, want) || e != api.OK || at != 0 {
			t.Fatalf("Program of %q: %x, %d, %d; want %x", was, kept, e, at, want)
		}
		spoil(kept)
		if again, e, _ := Program(string(was)); !bytes.Equal(again, want) || e != api.OK {
			t.Fatalf("Program of %q asked anew: %x, %d; want %x", was, again, e, want)
		}
	}
}

// R5: what Print and Parse answer is their own, though the bytes of lines are written over behind the call.
func TestLinesOwnMemory(t *testing.T) {
	d := uint64(8)
	for range 2000 {
		k, is := byWord[uint16(draw(&d, 65536))]
		if !is {
			continue
		}
		line := []byte(k.line)
		o, e := Parse(over(line))
		printed, printE := Print(o)
		if string(line) != k.line {
			t.Fatalf("the line is now %q; it was %q", line, k.line)
		}
		clear(line)
		if o != k.order || e != api.OK || printed != k.line || printE != api.OK {
			t.Fatalf("%q: %+v, %d; %q, %d", k.line, o, e, printed, printE)
		}
	}
}

// R6: what is asked twice is answered alike, whatever was asked between, refused or not: no label is left of another text.
func TestAskedTwice(t *testing.T) {
	d := uint64(9)
	for range 300 {
		text := strings.Join(randomLines(&d, 20), "\n")
		first, e, at := Program(text)
		if e != api.OK || at != 0 {
			t.Fatalf("Program of %q: %d, %d", text, e, at)
		}
		Program("a:\nb:\nloop:\nelsewhere:\n")
		Program("elsewhere:\nx")
		wantFault(t, text+"\njump to elsewhere", api.ErrOpsNone, strings.Count(text, "\n")+2)
		wantFault(t, text+"\na:", api.ErrOpsText, strings.Count(text, "\n")+2)
		if second, e, at := Program(text); !bytes.Equal(first, second) || e != api.OK || at != 0 {
			t.Fatalf("Program of %q asked anew: %x, %d, %d; want %x", text, second, e, at, first)
		}
	}
}
