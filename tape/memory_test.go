package tape

import (
	"slices"
	"testing"

	"vesper/api"
)

// overwrite writes over a list and all the room behind its end, and makes it grow.
func overwrite[T any](l []T, v T) {
	whole := l[:cap(l)]
	for i := range whole {
		whole[i] = v
	}
	l = append(l, v)
	l[0] = v
	_ = append(whole, v)
}

// roomy is a list with something in the room behind its end, and all of it.
func roomy[T any](l []T, v T) ([]T, []T) {
	whole := append(slices.Clone(l), v, v, v)
	return whole[:len(l)], whole
}

// wantOwnMemory: the call changes nothing of what it is handed, what stands behind its end is not looked at, and the answer is its own memory.
func wantOwnMemory[In, Out comparable](t *testing.T, what string, in []In, call func([]In) []Out, otherIn In, otherOut Out) {
	t.Helper()
	want := slices.Clone(call(slices.Clone(in)))
	l, whole := roomy(in, otherIn)
	was := slices.Clone(whole)
	kept, other := call(l), call(l)
	if !slices.Equal(kept, want) || !slices.Equal(whole, was) {
		t.Fatalf("%s of a list with room behind it: %.200v; want %.200v", what, kept, want)
	}
	overwrite(other, otherOut)
	if !slices.Equal(kept, want) || !slices.Equal(whole, was) {
		t.Fatalf("%s: an answer, or what was handed in, has changed with another answer", what)
	}
	overwrite(l, otherIn)
	if !slices.Equal(kept, want) {
		t.Fatalf("%s: the answer has changed with what was handed in", what)
	}
	kept = append(kept, otherOut)
	if again := call(slices.Clone(in)); !slices.Equal(again, want) {
		t.Fatalf("%s asked anew: %.200v; want %.200v", what, again, want)
	}
}

// R5, R6: Write, Read, Spans and Heard.
func TestOwnMemory(t *testing.T) {
	d := uint64(7)
	for range 60 {
		b := make([]byte, 1+draw(&d, 20))
		for i := range b {
			b[i] = byte(draw(&d, 256))
		}
		leader := draw(&d, 9)
		write := func(b []byte) []api.Wave { l, _ := Write(b, leader); return l }
		wantOwnMemory(t, "Write", b, write, 0xee, api.Wave{High: -9, Low: -9})
		l := write(b)
		read := func(l []api.Wave) []byte { out, _, _ := Read(l, len(b)); return out }
		wantOwnMemory(t, "Read", l, read, api.Wave{High: 140, Low: 140}, 0xee)
		s := anySpan(&d)
		spans := func(l []api.Wave) []api.Span { out, _ := Spans(l, s); return out }
		wantOwnMemory(t, "Spans", l, spans, api.Wave{High: -9, Low: 0}, api.Span{Cycles: -9})
		heard := func(l []api.Span) []api.Wave { out, _ := Heard(l); return out }
		wantOwnMemory(t, "Heard", spans(l), heard, api.Span{Cycles: 7, Tape: true}, api.Wave{High: -9, Low: -9})
		wantOwnMemory(t, "Heard", spans(l)[1:], heard, api.Span{Cycles: -7}, api.Wave{High: -9, Low: -9})
	}
}

// R5: what stands in the room behind a tape's end is none of it: one wave more is not read there.
func TestRoomBehind(t *testing.T) {
	all := waves(twinWrite([]byte{0x5a, 0xa5}, 3))
	for n := range all {
		wantRead(t, all[:n], 2)
		wantRead(t, all[n:], 1)
	}
}
