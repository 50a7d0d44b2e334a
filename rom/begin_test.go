package rom

import (
	"bytes"
	"fmt"
	"slices"
	"testing"

	"vesper/api"
	"vesper/asm"
)

// refreshAt is where the refresh routine begins.
func refreshAt(t *testing.T) uint16 {
	t.Helper()
	at, there := asm.Find(api.Object{Labels: Labels()}, "refresh")
	if !there {
		t.Fatal("there is no label refresh")
	}
	return uint16(at)
}

// begins lets a machine come to 0000, C being up, and holds it against P19.3.
func begins(t *testing.T, what string, r *rig) {
	t.Helper()
	ahead := r.State()
	for n := 0; ; n++ {
		s := r.State()
		if s.CPU.Phase == api.Fetch && s.CPU.P == 0 && s.CPU.R[0] == 0 && !s.Latch {
			break
		}
		if n == firstCycles {
			t.Fatalf("%s: it has not begun in %d cycles", what, n)
		}
		r.tick(uint16(draw(&r.noise, 65536)) &^ keyC)
	}
	s, size := r.State(), len(ahead.RAM)
	c := s.CPU
	if !c.IE || c.Q || s.Raster.On || r.q {
		t.Errorf("%s: IE %v, Q %v (%v), the chip on %v", what, c.IE, c.Q, r.q, s.Raster.On)
	}
	if int(c.R[11]>>8) != size/256-1 || int(c.R[2]) != size-512+0xcf || c.R[1] != refreshAt(t) {
		t.Errorf("%s: RB %04x, R2 %04x, R1 %04x", what, c.R[11], c.R[2], c.R[1])
	}
	want := slices.Clone(ahead.RAM)
	want[size-1] = 0
	if !bytes.Equal(s.RAM, want) {
		t.Errorf("%s: RAM has changed, or its last byte is %02x", what, s.RAM[size-1])
	}
}

// images are noughts, ff, and bytes of all kinds.
func images(d *uint64, size int) [][]byte {
	return [][]byte{nil, bytes.Repeat([]byte{0xff}, size), mixed(d, size), mixed(d, size/2)}
}

// P19.3: from power on, with RAM of every size, and behind that once more from behind a Reset.
func TestBeginsAtPowerOn(t *testing.T) {
	d := uint64(2)
	for _, size := range sizes() {
		for k, image := range images(&d, size) {
			what := fmt.Sprintf("%d bytes, image %d", size, k)
			r := power(t, size, image)
			begins(t, what, r)
			r.reset()
			begins(t, what+", behind a Reset", r)
			r.hold(draw(&d, 3000), 0) // whatever lies there is done
			r.reset()
			r.q = false
			begins(t, what+", behind another one", r)
		}
	}
}

// anyMachine stands as no machine at power on does, in that phase.
func anyMachine(d *uint64, size int, phase api.Phase) api.Board {
	s := api.Board{
		CPU: api.CPU{
			D: byte(draw(d, 256)), DF: draw(d, 2) == 0, P: byte(draw(d, 16)), X: byte(draw(d, 16)), T: byte(draw(d, 256)),
			IE: draw(d, 4) == 0, Q: draw(d, 4) != 0, Op: byte(draw(d, 256)), Phase: phase,
		},
		Raster: api.Raster{Line: draw(d, 262), Cycle: draw(d, 14), On: draw(d, 4) != 0},
		Pad:    api.Pad{Latch: byte(draw(d, 16))},
		Latch:  draw(d, 2) == 0,
		RAM:    mixed(d, size),
		ROM:    Bytes(),
	}
	for k := range s.CPU.R {
		s.CPU.R[k] = uint16(draw(d, 65536))
	}
	switch phase {
	case api.Second:
		s.CPU.Op |= 0xc0
		s.CPU.Op &^= 0x30
		s.CPU.B = byte(draw(d, 256))
	case api.Idle, api.Begin:
		s.CPU.Op = 0
	}
	return s
}

// P19.3: from behind a Reset, however the machine stood: in every phase, with the chip on, Q high, IE off, registers of all kinds.
func TestBeginsBehindReset(t *testing.T) {
	d := uint64(3)
	for phase := api.Fetch; phase <= api.Interrupt; phase++ {
		for _, size := range sizes() {
			for n := range 3 {
				r := from(t, anyMachine(&d, size, phase))
				r.reset()
				begins(t, fmt.Sprintf("%d bytes, phase %d, %d", size, phase, n), r)
			}
		}
	}
}

// P19.3: while the chip shows a page and Q is high, a Reset may come in every cycle of an instruction, of a line and of the routine.
func TestBeginsBehindResetAtEachMoment(t *testing.T) {
	d := uint64(4)
	r := shower(t, &d, 0x0305)
	r.hold(3*frameCycles, 0)
	if s := r.State(); !s.Raster.On || !s.CPU.Q {
		t.Fatalf("the chip on %v, Q %v", s.Raster.On, s.CPU.Q)
	}
	phases := map[api.Phase]int{}
	for n := range 300 {
		phases[r.State().CPU.Phase]++
		c := r.copied()
		c.reset()
		begins(t, fmt.Sprintf("moment %d", n), c)
		r.hold(1+draw(&d, 25), 0)
	}
	if len(phases) < 3 {
		t.Errorf("phases: %v", phases)
	}
}

// P19.3: many cycles of Reset are as one.
func TestBeginsBehindLongReset(t *testing.T) {
	d := uint64(5)
	for range 20 {
		r := from(t, anyMachine(&d, 4096, api.Fetch))
		for range 1 + draw(&d, 50) {
			r.reset()
		}
		begins(t, "a long Reset", r)
	}
}
