package game

import (
	"bytes"
	"slices"
	"testing"

	"vesper/api"
)

// spoil writes over numbers and all the room behind their end, and makes them grow.
func spoil[N byte | uint16](l []N) {
	room := l[:cap(l)]
	for k := range room {
		room[k] = ^room[k]
	}
	_ = append(l, 0x77, 0x77, 0x77)
	_ = append(room, 0x77)
}

// spoilGame writes over all lists of a game.
func spoilGame(g api.Game) {
	spoil(g.Page)
	spoil(g.Memory)
	spoil(g.Stack)
}

// roomy is a copy with room of noughts behind its end.
func roomy[N byte | uint16](l []N) []N {
	return append(make([]N, 0, len(l)+40), l...)
}

// roomyGame is a copy of a game whose lists have such room.
func roomyGame(g api.Game) api.Game {
	g.Page, g.Memory, g.Stack = roomy(g.Page), roomy(g.Memory), roomy(g.Stack)
	return g
}

// untouched tells whether the room behind a list's end is as roomy made it.
func untouched[N byte | uint16](l []N) bool {
	room := l[len(l):cap(l)]
	return len(room) == 40 && slices.Equal(room, make([]N, 40))
}

// wantAsItWas: what was handed in has not been changed, nor the room behind it.
func wantAsItWas(t *testing.T, g, was api.Game) {
	t.Helper()
	if !same(g, was) || !untouched(g.Page) || !untouched(g.Memory) || !untouched(g.Stack) {
		t.Fatalf("what was handed in is now %s; it was %s", told(g), told(was))
	}
}

// wantOwnLists: none of an answer's lists shares memory with another of them.
func wantOwnLists(t *testing.T, g api.Game) {
	t.Helper()
	memory, stack := bytes.Clone(g.Memory), slices.Clone(g.Stack)
	spoil(g.Page)
	page := bytes.Clone(g.Page)
	if !bytes.Equal(g.Memory, memory) || !slices.Equal(g.Stack, stack) {
		t.Fatalf("the page lies over another list")
	}
	spoil(g.Memory)
	memory = bytes.Clone(g.Memory)
	spoil(g.Stack)
	if !bytes.Equal(g.Page, page) || !bytes.Equal(g.Memory, memory) {
		t.Fatalf("the memory or the stack lies over another list")
	}
}

// R5: Step changes neither game nor font nor the room behind their lists; its answer is its own, though all that and other answers are written over: of every order, done or not.
func TestStepOwnMemory(t *testing.T) {
	d := uint64(10)
	count := map[api.Outcome]int{}
	for n := range 6000 {
		was := anyGame(&d)
		w := word(&d)
		if n%10 == 0 {
			w = draw(&d, 65536)
		}
		was = laid(was, w)
		if n%50 == 0 {
			was.PC = 0xe9f
		}
		wasFont, in := anyFont(&d), anyFeed(&d)
		want, wantOut, _ := twinStep(was, wasFont, in)
		want = twinCopy(want)
		g, f := roomyGame(was), wasFont
		f.Bytes = roomy(wasFont.Bytes)
		ahead, _, _ := Step(g, f, in)
		kept, out, e := Step(g, f, in)
		behind, _, _ := Step(g, f, in)
		wantAsItWas(t, g, was)
		if !bytes.Equal(f.Bytes, wasFont.Bytes) || !untouched(f.Bytes) {
			t.Fatalf("the font's bytes are now %x; they were %x", f.Bytes, wasFont.Bytes)
		}
		spoilGame(ahead)
		spoilGame(behind)
		spoilGame(g)
		spoil(f.Bytes)
		if !same(kept, want) || out != wantOut || e != api.OK {
			t.Fatalf("Step of %s: %s, %d, %d; want %s, %d", told(was), told(kept), out, e, told(want), wantOut)
		}
		wantOwnLists(t, kept)
		wantStep(t, was, wasFont, in, want, wantOut)
		count[out]++
	}
	if len(count) != 7 {
		t.Errorf("how many of each outcome: %v", count)
	}
}

// R5: a font whose bytes, and a page, which are pieces of the memory: each is read as it stood.
func TestListsThatShare(t *testing.T) {
	d := uint64(11)
	for range 3000 {
		g := anyGame(&d)
		g = laid(g, word(&d))
		g.Page = g.Memory[1000:1256]
		was := twinCopy(g)
		f := digits()
		f.From, f.Bytes = 0xea0, g.Memory[200:300]
		f.At[0] = 0xea0
		wasFont := f
		wasFont.Bytes = bytes.Clone(f.Bytes)
		in := anyFeed(&d)
		want, wantOut, _ := twinStep(was, wasFont, in)
		wantStep(t, g, f, in, want, wantOut)
		if !same(g, was) {
			t.Fatalf("the game is now %s; it was %s", told(g), told(was))
		}
	}
}

// R5: New's answer is its own, though the program and other answers are written over.
func TestNewOwnMemory(t *testing.T) {
	d := uint64(12)
	for _, n := range []int{0, 1, 2, 100, 3231, 3232} {
		was := anyBytes(&d, n)
		program := roomy(was)
		want := append(bytes.Clone(was), make([]byte, 3232-n)...)
		ahead, _ := New(program)
		kept, e := New(program)
		behind, _ := New(program)
		if !bytes.Equal(program, was) || !untouched(program) {
			t.Fatalf("the program is now %x; it was %x", program, was)
		}
		spoil(program)
		spoilGame(ahead)
		spoilGame(behind)
		if !bytes.Equal(kept.Memory, want) || !bytes.Equal(kept.Page, make([]byte, 256)) || e != api.OK {
			t.Fatalf("New of %x: %s, %d", was, told(kept), e)
		}
		wantOwnLists(t, kept)
	}
}

// R5: Tick's answer is its own; Next and Check change nothing.
func TestTickOwnMemory(t *testing.T) {
	d := uint64(13)
	for n := range 1000 {
		was := anyGame(&d)
		if n%4 == 0 {
			was.Delay, was.Sound = 0, 0 // nothing is to be counted down
		}
		want := twinCopy(was)
		want.Delay, want.Sound = byte(max(int(was.Delay)-1, 0)), byte(max(int(was.Sound)-1, 0))
		g := roomyGame(was)
		ahead := Tick(g)
		kept := Tick(g)
		behind := Tick(g)
		Next(g)
		Check(g)
		wantAsItWas(t, g, was)
		spoilGame(ahead)
		spoilGame(behind)
		spoilGame(g)
		if !same(kept, want) {
			t.Fatalf("Tick of %s: %s", told(was), told(kept))
		}
		wantOwnLists(t, kept)
	}
}

// R6: what is asked twice is answered alike, whatever was asked between, refused or not.
func TestAskedTwice(t *testing.T) {
	d := uint64(14)
	for range 500 {
		g, f, in := anyGame(&d), anyFont(&d), anyFeed(&d)
		g = laid(g, word(&d))
		wantTwin(t, g, f, in)
		wantNoStep(t, g, f, api.Feed{Key: 16}, api.ErrArg)
		short := g
		short.Page = g.Page[1:]
		wantNoStep(t, short, f, in, api.ErrGameState)
		other := laid(anyGame(&d), word(&d))
		wantTwin(t, other, anyFont(&d), anyFeed(&d))
		wantTwin(t, g, f, in)
	}
}

// R3: a stack that is nil and one that is empty are the same.
func TestNoCalls(t *testing.T) {
	for _, program := range []string{"00ee", "2345", "6105", "0000", "ffff"} {
		g := begun(t, program, func(g *api.Game) { g.Stack = nil })
		h := twinCopy(g)
		h.Stack = make([]uint16, 0, 20)
		first, out, e := Step(g, digits(), none)
		second, out2, e2 := Step(h, digits(), none)
		if !same(first, second) || out != out2 || e != e2 || !slices.Equal(h.Stack[:20], make([]uint16, 20)) {
			t.Errorf("%s: %s, %d, %d; %s, %d, %d", program, told(first), out, e, told(second), out2, e2)
		}
	}
}
