package inter

import (
	"testing"

	"vesper/api"
	"vesper/ops"
)

// P20.4: Bound of every order there is hangs on its kind alone, and is at most what the chapter says.
func TestBoundOfEachOrder(t *testing.T) {
	first := map[api.Op]int{}
	for w := range 65536 {
		o, is := ops.Decode(uint16(w))
		if !is {
			continue
		}
		n := Bound(o)
		if was, there := first[o.Op]; there && was != n {
			t.Fatalf("%04x: %d, another one of its kind %d", w, n, was)
		}
		first[o.Op] = n
	}
	if len(first) != 31 {
		t.Errorf("%d kinds", len(first))
	}
	for op, n := range first {
		least, most := 1, 6000
		switch op {
		case api.OpMachine:
			least, most = 0, 0
		case api.OpClear, api.OpDraw:
			most = 20000
		}
		if n < least || n > most {
			t.Errorf("kind %d: %d", op, n)
		}
	}
}

// P20.4: Bound of what is no order is 0.
func TestBoundOfNoOrder(t *testing.T) {
	l := []api.Order{
		{}, {X: 1}, {Op: api.OpFill + 1}, {Op: 100}, {Op: 255},
		{Op: api.OpMachine}, {Op: api.OpMachine, At: 0xe0}, {Op: api.OpMachine, At: 0xee}, {Op: api.OpMachine, At: 0xfff},
		{Op: api.OpClear, X: 1}, {Op: api.OpClear, At: 0xe0}, {Op: api.OpReturn, Byte: 0xee}, {Op: api.OpJump, At: 0x1000}, {Op: api.OpJump, X: 1},
		{Op: api.OpSet, X: 16}, {Op: api.OpSet, X: 255}, {Op: api.OpSet, Y: 1}, {Op: api.OpMove, Y: 16}, {Op: api.OpMove, Byte: 1},
		{Op: api.OpDraw, N: 16}, {Op: api.OpDraw, At: 1}, {Op: api.OpKey, N: 1}, {Op: api.OpKey, Byte: 0x0a}, {Op: api.OpFill, X: 16},
	}
	for _, o := range l {
		if n := Bound(o); n != 0 {
			t.Errorf("%+v: %d", o, n)
		}
	}
}

// P20.4: whatever an order is, Bound is 0 just where Encode refuses it, and of OpMachine.
func TestBoundOfAnything(t *testing.T) {
	d := uint64(2800)
	few := func(n int) int {
		if draw(&d, 2) == 0 {
			return 0
		}
		return draw(&d, n)
	}
	for range 50000 {
		o := api.Order{Op: api.Op(draw(&d, 36)), X: byte(few(18)), Y: byte(few(18)), N: byte(few(18)), Byte: byte(few(256)), At: uint16(few(0x1100))}
		_, e := ops.Encode(o)
		if n := Bound(o); (n == 0) != (e != api.OK || o.Op == api.OpMachine) || n < 0 {
			t.Fatalf("%+v: %d", o, n)
		}
	}
}

// P20.4: the orders that take longest, from each of many moments of a frame, are done in time. (All tests hold each order against its bound; these are the ones that come near it.)
func TestLongestOrders(t *testing.T) {
	abreast(t, 30, func(t *testing.T, n int) {
		d := uint64(2900 + n)
		m := begun(t, []byte{0x12, 0x00})
		for k, w := range []uint16{0xd12f, 0x00e0, 0xff55, 0xff65, 0xf133} {
			for ahead := n; ahead < 1820; ahead += 300 {
				g := anyGame(&d, w)
				g.PC, g.I, g.Delay, g.Sound = 0x200, 0x300, 255, 255
				for a := range g.Page {
					g.Page[a] = 0xff
				}
				for a := range g.Memory {
					g.Memory[a] = 0xff
				}
				g.V[1], g.V[2] = 15, 4
				if w == 0xf133 {
					g.V[1] = 199
				}
				m.lay(laid(g, w))
				m.interruptIn(ahead)
				p := m.order()
				own := []int{3334, 2652, 530, 376, 424}[k]
				if p.own != own {
					t.Fatalf("%04x: %d cycles of its own, not %d", w, p.own, own)
				}
			}
		}
	})
}

// The refresh routine takes as long as the bounds suppose, and no longer, with timers or without.
func TestRest(t *testing.T) {
	longest := 0
	for _, timers := range [][2]byte{{0, 0}, {1, 0}, {0, 1}, {9, 9}, {255, 255}} {
		m := begun(t, []byte{0x12, 0x00})
		g := m.game()
		g.Delay, g.Sound = timers[0], timers[1]
		m.lay(g)
		for range 200 {
			p := m.order()
			if p.ticks > 0 {
				longest = max(longest, (p.cycles-p.own)/p.ticks)
			}
		}
	}
	if longest != rest {
		t.Errorf("%d cycles at most, not %d", longest, rest)
	}
}
