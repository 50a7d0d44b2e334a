package inter

import (
	"bytes"
	"testing"

	"vesper/api"
	"vesper/ops"
)

// calm: whatever was done, the machine shows its page on, and the interpreter is whole. (That it is never written is seen in each cycle.)
func (m *machine) calm(what string) {
	m.t.Helper()
	for m.inside {
		m.tick()
	}
	s := m.State()
	c := s.CPU
	if !s.Raster.On || !c.IE || c.R[1] != m.refresh || c.R[11]>>8 != 0x0f || c.P == 1 || !bytes.Equal(s.RAM[:api.InterSize], m.inter) {
		m.t.Fatalf("%s: the chip on %v, IE %v, P %x, registers %04x", what, s.Raster.On, c.IE, c.P, c.R)
	}
	if c.R[2] > api.StackAt+1 || c.R[2] < api.StackAt-2*api.MaxCalls-2 {
		m.t.Fatalf("%s: R2 %04x", what, c.R[2])
	}
}

// left lets a game be gone on with for some frames, whatever comes of it.
func (m *machine) left(g api.Game, what string) {
	m.t.Helper()
	m.lay(g)
	for range 3 * frameCycles {
		m.tick()
	}
	m.calm(what)
}

// P20.3: RAM from 0000 to 01FF is never written, and the machine shows its page, though an order leads outside: every address about the edges.
func TestOutside(t *testing.T) {
	places := []uint16{0, 1, 0xfe, 0xff, 0x100, 0x1f0, 0x1fd, 0x1fe, 0x1ff, 0xe9e, 0xe9f, 0xea0, 0xeb0, 0xec8, 0xecf, 0xeef, 0xef0, 0xeff, 0xff0, 0xfff, 0x1000, 0x7fff, 0x8000, 0x81ff, 0xfff0, 0xfff8, 0xfffd, 0xfffe, 0xffff}
	abreast(t, len(places), func(t *testing.T, n int) {
		d := uint64(3000 + n)
		m := begun(t, []byte{0x12, 0x00})
		for _, w := range []uint16{0xf033, 0xff55, 0xf755, 0xff65, 0xd12f} {
			g := anyGame(&d, w)
			g.I = places[n]
			m.left(g, "an order")
			m = begun(t, []byte{0x12, 0x00})
		}
	})
}

// P20.3: likewise with orders that are none. Of those that begin with 0, E and F nothing comes: there is no beat any more.
func TestNoOrders(t *testing.T) {
	l := []uint16{
		0x0000, 0x0123, 0x00e1, 0x01e0, 0x0fee, 0x00ef, 0x0fff, 0xe100, 0xe19f, 0xe1ff, 0xe1a0, 0xf000, 0xf006, 0xf130, 0xf1ff, 0xf166, 0xf154,
		0x5121, 0x512f, 0x9121, 0x8123, 0x8126, 0x8127, 0x8128, 0x812c, 0x812e, 0x812f,
	}
	abreast(t, len(l), func(t *testing.T, n int) {
		d := uint64(3100 + n)
		if o, is := ops.Decode(l[n]); is && o.Op != api.OpMachine {
			t.Fatalf("%04x is an order", l[n])
		}
		for range 4 {
			m := begun(t, []byte{0x12, 0x00})
			m.left(anyGame(&d, l[n]), "no order")
			if c := l[n] >> 12; c != 0 && c < 0xe {
				continue
			}
			m = begun(t, []byte{0x12, 0x00})
			m.lay(anyGame(&d, l[n]))
			m.hold(uint16(draw(&d, 65536)), 2*frameCycles, "no order")
		}
	})
}

// P20.3: likewise with a stack that is full, or empty.
func TestFullAndEmptyStack(t *testing.T) {
	d := uint64(3200)
	for range 10 {
		g := anyGame(&d, 0x2200)
		for len(g.Stack) < api.MaxCalls {
			g.Stack = append(g.Stack, 0x0202)
		}
		begun(t, []byte{0x12, 0x00}).left(g, "a full stack")
		g = anyGame(&d, 0x00ee)
		g.Stack = nil
		begun(t, []byte{0x12, 0x00}).left(g, "an empty stack")
	}
	m := begun(t, []byte{0x22, 0x00})
	m.left(m.game(), "calls without end")
}

// P20.3: likewise with PC anywhere.
func TestOutsidePC(t *testing.T) {
	d := uint64(3300)
	for _, pc := range []uint16{0, 1, 0x21, 0x100, 0x1fe, 0x1ff, 0xe9f, 0xea0, 0xece, 0xef0, 0xf00, 0xfff, 0x1000, 0x8000, 0x805c, 0xfffe, 0xffff} {
		g := anyGame(&d, 0x1200)
		g.PC = pc
		begun(t, []byte{0x12, 0x00}).left(g, "PC outside")
	}
}

// P20.3: likewise with programs that are none.
func TestAnyBytes(t *testing.T) {
	abreast(t, 64, func(t *testing.T, n int) {
		d := uint64(3400 + n)
		m := begun(t, mixed(&d, api.ProgramSize))
		m.keys = uint16(draw(&d, 65536))
		g := m.game()
		copy(g.V[:], mixed(&d, 16))
		g.I = anyWord(&d)
		m.left(g, "any bytes")
	})
}

// Where there is no order to be done, nothing else is: no beat comes any more.
func TestStaysAtNoOrder(t *testing.T) {
	for _, program := range [][]byte{nil, {0x00}, {0x61, 0x07, 0x00, 0x00}, {0x61, 0x07, 0xf1, 0x99}, {0x61, 0x07, 0xe1, 0x99}, {0x61, 0x07, 0x00, 0xee}} {
		m := begun(t, program)
		for m.isDone(m.game()) {
			m.order()
		}
		m.hold(0, 5*frameCycles, "no order")
	}
}
