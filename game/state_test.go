package game

import (
	"bytes"
	"math"
	"testing"

	"vesper/api"
	"vesper/ops"
)

// P18.1: programs of all lengths, up to the longest and beyond.
func TestNew(t *testing.T) {
	d := uint64(1)
	for _, n := range []int{0, 1, 2, 255, 256, 3230, 3231, 3232} {
		program := anyBytes(&d, n)
		want := api.Game{PC: 0x200, Page: make([]byte, 256), Memory: append(bytes.Clone(program), make([]byte, 3232-n)...)}
		g, e := New(program)
		if !same(g, want) || e != api.OK {
			t.Errorf("New of %d bytes: %s, %d", n, told(g), e)
		}
		if e := Check(g); e != api.OK {
			t.Errorf("Check of New of %d bytes: %d", n, e)
		}
	}
	for _, n := range []int{3233, 3234, 4096, 65536, 1 << 20} {
		if g, e := New(make([]byte, n)); !zero(g) || e != api.ErrLong {
			t.Errorf("New of %d bytes: %s, %d", n, told(g), e)
		}
	}
	for _, program := range [][]byte{nil, {}} {
		if g, e := New(program); e != api.OK || g.PC != 0x200 || len(g.Memory) != 3232 || len(g.Page) != 256 {
			t.Errorf("New of nothing: %s, %d", told(g), e)
		}
	}
}

// sized is a game whose lists have so many numbers, with an order in its memory, if that has room.
func sized(page, memory, stack int) api.Game {
	g := api.Game{I: 0x300, PC: 0x200, Delay: 7, Sound: 9, Page: make([]byte, page), Memory: make([]byte, memory), Stack: make([]uint16, stack)}
	copy(g.Memory, bin("6105"))
	g.V[3] = 3
	return g
}

// wantNoGame: every call tells that the game may not be, whatever else is wrong.
func wantNoGame(t *testing.T, g api.Game) {
	t.Helper()
	if e := Check(g); e != api.ErrGameState {
		t.Errorf("Check of %d, %d, %d: %d", len(g.Page), len(g.Memory), len(g.Stack), e)
	}
	if o, out := Next(g); o != (api.Order{}) || out != 0 {
		t.Errorf("Next of %d, %d, %d: %+v, %d", len(g.Page), len(g.Memory), len(g.Stack), o, out)
	}
	if h := Tick(g); !zero(h) {
		t.Errorf("Tick of %d, %d, %d: %s", len(g.Page), len(g.Memory), len(g.Stack), told(h))
	}
	far := api.Font{From: 0xffff, Bytes: make([]byte, 2)}
	for _, key := range []int{-1, 0, 15, 16} {
		wantNoStep(t, g, digits(), api.Feed{Key: key}, api.ErrGameState)
		wantNoStep(t, g, far, api.Feed{Key: key}, api.ErrGameState)
	}
}

// P18.2, P18.3, P18.4, P18.5: which games may be.
func TestWhichMayBe(t *testing.T) {
	pages, memories, stacks := []int{256, 0, 1, 255, 257, 512, 3232}, []int{3232, 0, 1, 256, 3231, 3233, 4096, 65536}, []int{0, 1, 11, 12, 13, 14, 256}
	for _, page := range pages {
		for _, memory := range memories {
			for _, stack := range stacks {
				g := sized(page, memory, stack)
				if page != 256 || memory != 3232 || stack > 12 {
					wantNoGame(t, g)
					continue
				}
				if e := Check(g); e != api.OK {
					t.Errorf("Check of %d, %d, %d: %d", page, memory, stack, e)
				}
				if o, out := Next(g); o != (api.Order{Op: api.OpSet, X: 1, Byte: 5}) || out != api.Done {
					t.Errorf("Next of %d, %d, %d: %+v, %d", page, memory, stack, o, out)
				}
				wantDone(t, g, digits(), none, func(g *api.Game) { g.V[1] = 5 })
				want := twinCopy(g)
				want.Delay, want.Sound = 6, 8
				if h := Tick(g); !same(h, want) {
					t.Errorf("Tick of %d, %d, %d: %s", page, memory, stack, told(h))
				}
			}
		}
	}
	wantNoGame(t, api.Game{})
	wantNoGame(t, api.Game{Delay: 5, Sound: 6, PC: 0x200})
	// Room behind the end is no part of a list.
	roomy := sized(256, 3232, 12)
	short := roomy
	short.Page = roomy.Page[:255]
	wantNoGame(t, short)
	short = roomy
	short.Memory = roomy.Memory[:3231]
	wantNoGame(t, short)
}

// P18.2: any words and bytes may be.
func TestAnyWordsMayBe(t *testing.T) {
	d := uint64(2)
	for range 300 {
		g := anyGame(&d)
		for _, w := range []uint16{0, 0x1ff, 0x200, 0xe9f, 0xea0, 0xffff} {
			g.I, g.PC = w, w^0xffff
			for k := range g.Stack {
				g.Stack[k] = w
			}
			if e := Check(g); e != api.OK {
				t.Fatalf("Check of %s: %d", told(g), e)
			}
		}
	}
}

// P18.3: which PCs lead to an order: all of them, with two bytes that are one.
func TestWherePCLeads(t *testing.T) {
	g, _ := New(bytes.Repeat([]byte{0x66}, 3232))
	for pc := range 65536 {
		g.PC = uint16(pc)
		wantOrder, wantOut := api.Order{Op: api.OpSet, X: 6, Byte: 0x66}, api.Done
		if pc < 0x200 || pc > 0xe9e {
			wantOrder, wantOut = api.Order{}, api.Outside
		}
		if o, out := Next(g); o != wantOrder || out != wantOut {
			t.Fatalf("Next at %04x: %+v, %d", pc, o, out)
		}
	}
	for _, pc := range []uint16{0, 0x1fe, 0x1ff, 0xe9f, 0xea0, 0xfff, 0x8000, 0xfffe, 0xffff} {
		g.PC = pc
		wantStuck(t, g, digits(), none, api.Outside)
		// A font's bytes are no orders.
		wantStuck(t, g, api.Font{Bytes: bytes.Repeat([]byte{0x66}, 65536)}, none, api.Outside)
	}
	for _, pc := range []uint16{0x200, 0x201, 0xe9d, 0xe9e} {
		g.PC = pc
		wantDone(t, g, digits(), none, func(g *api.Game) { g.V[6] = 0x66 })
	}
}

// P18.3: each word at the first, at an odd and at the last place: what ops.Decode says of it, its high byte first.
func TestEachWord(t *testing.T) {
	g, _ := New(nil)
	count := map[api.Outcome]int{}
	for w := range 65536 {
		order, known := ops.Decode(uint16(w))
		want := api.Done
		switch {
		case !known:
			want = api.Unknown
		case order.Op == api.OpMachine:
			want = api.Machine
		}
		count[want]++
		for _, pc := range []uint16{0x200, 0x345, 0xe9e} {
			g.PC = pc
			g.Memory[pc-0x200], g.Memory[pc-0x1ff] = byte(w>>8), byte(w)
			if o, out := Next(g); o != order || out != want {
				t.Fatalf("Next of %04x at %04x: %+v, %d; want %+v, %d", w, pc, o, out, order, want)
			}
		}
	}
	if count[api.Machine] != 4094 || count[api.Done] != 47024-4094 || count[api.Unknown] != 65536-47024 {
		t.Errorf("how many words of each: %v", count)
	}
}

// P18.4: words that are no order, and calls of machine code, change nothing.
func TestNoOrders(t *testing.T) {
	d := uint64(3)
	for _, word := range []string{"5121", "512f", "8123", "8126", "8127", "812e", "9121", "e19d", "e1a2", "e100", "f100", "f10b", "f130", "f175", "ffff", "efff"} {
		g := anyGame(&d)
		g.PC = 0x200
		copy(g.Memory, bin(word))
		wantStuck(t, g, digits(), api.Feed{Key: 3, Keys: 0xffff, Random: 0xff}, api.Unknown)
	}
	for _, word := range []string{"0000", "0001", "00df", "00e1", "00ed", "00ef", "0200", "01e0", "0fff"} {
		g := anyGame(&d)
		g.PC = 0x200
		copy(g.Memory, bin(word))
		wantStuck(t, g, digits(), api.Feed{Key: 3, Keys: 0xffff, Random: 0xff}, api.Machine)
	}
}

// P18.4: keys and fonts that may not be are told of every order, also where nothing is done.
func TestFeedsAndFontsThatMayNotBe(t *testing.T) {
	for _, program := range []string{"6105", "f10a", "e19e", "d125", "f129", "f165", "00ee", "2200", "ffff", "0000"} {
		g := begun(t, program, nil)
		for _, pc := range []uint16{0x200, 0xe9f} {
			g.PC = pc
			for _, key := range []int{16, 17, 255, 256, 1 << 16, math.MaxInt32, math.MaxInt} {
				wantNoStep(t, g, digits(), api.Feed{Key: key}, api.ErrArg)
				wantNoStep(t, g, api.Font{}, api.Feed{Key: key}, api.ErrArg)
			}
			for from, least := range map[uint16]int{0: 65537, 1: 65536, 0x200: 65025, 0x8000: 32769, 0xfff0: 17, 0xffff: 2} {
				for _, n := range []int{least, least + 1, 2 * least, least + 1<<16, least + 1<<17} {
					wantNoStep(t, g, api.Font{From: from, Bytes: make([]byte, n)}, none, api.ErrArg)
				}
				wantTwin(t, g, api.Font{From: from, Bytes: make([]byte, least-1)}, none)
			}
			for _, key := range []int{0, 1, 14, 15, -1, -2, -16, -255, -256, -65536, math.MinInt32, math.MinInt} {
				wantTwin(t, g, digits(), api.Feed{Key: key})
			}
		}
	}
}

// P18.5: each timer by itself, at every two values.
func TestTick(t *testing.T) {
	d := uint64(4)
	less := func(b int) byte { return byte(max(b-1, 0)) }
	for delay := range 256 {
		g := anyGame(&d)
		for sound := range 256 {
			g.Delay, g.Sound = byte(delay), byte(sound)
			want := twinCopy(g)
			want.Delay, want.Sound = less(delay), less(sound)
			if h := Tick(g); !same(h, want) {
				t.Fatalf("Tick of %s: %s", told(g), told(h))
			}
		}
	}
	for _, x := range []struct{ was, is byte }{{0, 0}, {1, 0}, {2, 1}, {255, 254}} {
		g := begun(t, "", func(g *api.Game) { g.Delay, g.Sound = x.was, x.was })
		if h := Tick(g); h.Delay != x.is || h.Sound != x.is {
			t.Errorf("Tick of %d: %d, %d", x.was, h.Delay, h.Sound)
		}
	}
	// 255 ticks bring the timers to an end, and no further.
	g := begun(t, "", func(g *api.Game) { g.Delay, g.Sound = 255, 254 })
	for k := range 300 {
		g = Tick(g)
		if g.Delay != less(255-k) || g.Sound != less(254-k) {
			t.Fatalf("behind %d ticks: %d, %d", k+1, g.Delay, g.Sound)
		}
	}
}
