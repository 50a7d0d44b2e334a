package inter

import (
	"bytes"
	"fmt"
	"testing"

	"vesper/api"
	"vesper/game"
)

// firstBeat lets a machine come to its fetch loop, C being up; by its state, not by its records. The chip has just come on then, and not right ahead of an interrupt: so that finds the refresh routine in step.
func (m *machine) firstBeat(d *uint64, what string) api.Game {
	m.t.Helper()
	for n := 0; n <= firstCycles; n++ {
		if n > 100 || n%8 == 0 {
			m.keys = uint16(draw(d, 65536)) &^ keyC
		}
		s := m.State()
		if g, is := m.stands(s); is {
			c := s.CPU
			if c.P < 2 || !c.IE || c.Q || c.R[1] != m.refresh || c.R[2] != api.StackAt || c.R[11]>>8 != 0x0f || !s.Raster.On {
				m.t.Errorf("%s: P %x, IE %v, Q %v, registers %04x, the chip on %v", what, c.P, c.IE, c.Q, c.R, s.Raster.On)
			}
			if n := s.Raster.Line; n != 76 && n != 204 {
				m.t.Errorf("%s: the chip has come on in line %d", what, n)
			}
			return g
		}
		m.tick()
	}
	m.t.Fatalf("%s: it has not come to its fetch loop", what)
	return api.Game{}
}

// P20.2: from power on, with programs of every length and any keys but C down, it comes to stand for a new game.
func TestBegins(t *testing.T) {
	sizes := []int{0, 1, 2, 3, 100, 2559, 3000, 3231, 3232}
	abreast(t, len(sizes), func(t *testing.T, n int) {
		d := uint64(n)
		program := mixed(&d, sizes[n])
		want, e := game.New(program)
		if e != api.OK {
			t.Fatalf("game.New: %d", e)
		}
		what := fmt.Sprintf("%d bytes", sizes[n])
		m := power(t, program)
		if g := m.firstBeat(&d, what); !same(g, want) {
			t.Errorf("%s: V %x I %04x PC %04x stack %04x timers %d %d", what, g.V, g.I, g.PC, g.Stack, g.Delay, g.Sound)
		}
		if s := m.State(); !bytes.Equal(s.RAM[api.ProgramAt:api.ProgramAt+len(program)], program) {
			t.Errorf("%s: the program has changed", what)
		}
	})
}

// P20.2: whatever all keys but C do in the meantime.
func TestBeginsWithKeys(t *testing.T) {
	for _, keys := range []uint16{0, 0xffff &^ keyC, 1, 0x8000, 0x0800, 0x2000} {
		m := power(t, []byte{0x12, 0x00})
		m.keys = keys
		p, came := m.beat(firstCycles)
		want, _ := game.New([]byte{0x12, 0x00})
		if g := m.game(); !came || !same(g, want) {
			t.Errorf("keys %04x: %d cycles", keys, p.cycles)
		}
	}
}

// Behind a Reset, too, in the midst of whatever goes on, it begins anew: all is as in a new game, but the memory, which is as it was.
func TestBeginsBehindReset(t *testing.T) {
	abreast(t, 40, func(t *testing.T, n int) {
		d := uint64(50 + n)
		program := []byte{0xd0, 0x1f, 0xf2, 0x55, 0x22, 0x00}
		if n%2 == 0 {
			program = []byte{0x00, 0xe0, 0x70, 0x07, 0x22, 0x00}
		}
		m := begun(t, program)
		g := m.game()
		copy(g.V[:], mixed(&d, 16))
		g.I, g.Delay, g.Sound, g.Page = 0x300, 200, 100, mixed(&d, api.PageSize)
		m.lay(g)
		for range draw(&d, 3*frameCycles) {
			m.tick()
		}
		m.Step(api.Span{Cycles: 1, Clear: true})
		m.begun, m.inside = false, false
		want := bytes.Clone(m.State().RAM[api.ProgramAt : api.ProgramAt+api.ProgramSize])
		fresh, _ := game.New(want)
		if g := m.firstBeat(&d, "behind a Reset"); !same(g, fresh) {
			t.Errorf("V %x I %04x PC %04x stack %04x timers %d %d", g.V, g.I, g.PC, g.Stack, g.Delay, g.Sound)
		}
		m.tick()
		m.begun = true
		m.lay(laid(m.game(), 0x6042))
		m.order()
	})
}

// As the monitor leaves it (chapter 19), at 0000, with X any, at any place of a frame, it begins; and what is not the monitor's business may be anything.
func TestBeginsAnywhere(t *testing.T) {
	abreast(t, 60, func(t *testing.T, n int) {
		d := uint64(150 + n)
		m := power(t, mixed(&d, 1+draw(&d, 3000)))
		for s := m.State(); ; s = m.State() {
			if s.CPU.Phase == api.Fetch && s.CPU.P == 0 && s.CPU.R[0] == 0 && !s.Latch {
				break
			}
			m.tick()
		}
		s := m.State()
		c := &s.CPU
		for _, k := range []int{3, 4, 5, 6, 7, 8, 9, 10, 12, 13, 14, 15} {
			c.R[k] = uint16(draw(&d, 65536))
		}
		c.R[11] = c.R[11]&0xff00 | uint16(draw(&d, 256))
		c.D, c.DF, c.X, c.T = byte(draw(&d, 256)), draw(&d, 2) == 0, byte(draw(&d, 16)), byte(draw(&d, 256))
		at := n * frameCycles / 60
		s.Raster.Line, s.Raster.Cycle = at/api.LineCycles, at%api.LineCycles
		copy(s.RAM[api.ProgramAt+api.ProgramSize:], mixed(&d, api.InterRAM-api.ProgramAt-api.ProgramSize))
		m.keep(s)
		want, _ := game.New(s.RAM[api.ProgramAt : api.ProgramAt+api.ProgramSize])
		if g := m.firstBeat(&d, "anywhere"); !same(g, want) {
			t.Errorf("V %x I %04x PC %04x stack %04x timers %d %d", g.V, g.I, g.PC, g.Stack, g.Delay, g.Sound)
		}
		m.tick()
		m.begun = true
		for range 40 {
			m.lay(laid(m.game(), 0x1200))
			m.order()
		}
	})
}
