package inter

import (
	"fmt"
	"testing"
)

// Timers of 0, 1, 2 and 255, set by orders, read by them, over several frames: they go down by the interrupts.
func TestTimers(t *testing.T) {
	starts := []byte{0, 1, 2, 7, 254, 255}
	abreast(t, len(starts)*len(starts), func(t *testing.T, n int) {
		delay, sound := starts[n/len(starts)], starts[n%len(starts)]
		m := begun(t, []byte{0xf1, 0x15, 0xf2, 0x18, 0xf3, 0x07, 0x12, 0x04})
		g := m.game()
		g.V[1], g.V[2] = delay, sound
		m.lay(g)
		m.order()
		m.order()
		ticks := 0
		g = m.game()
		for ticks < 10 {
			ticks += m.order().ticks
			if h := m.game(); int(h.Delay) != max(int(g.Delay)-ticks, 0) || int(h.Sound) != max(int(g.Sound)-ticks, 0) {
				t.Fatalf("from %d and %d, behind %d ticks: %d and %d", g.Delay, g.Sound, ticks, h.Delay, h.Sound)
			}
		}
	})
}

// All of the 255 ticks of both timers.
func TestTimersRunDown(t *testing.T) {
	m := begun(t, []byte{0x61, 0xff, 0xf1, 0x15, 0xf1, 0x18, 0x12, 0x06})
	ticks := 0
	for range 3 {
		m.order()
	}
	for ticks < 258 {
		p, came := m.beat(keyBound)
		ticks += p.ticks
		s := m.State()
		if r8 := int(s.CPU.R[8]); !came || r8>>8 != max(255-ticks, 0) && r8>>8 != max(254-ticks, 0) || r8&255 != max(255-ticks, 0) && r8&255 != max(254-ticks, 0) {
			t.Fatalf("behind %d ticks: %04x", ticks, r8)
		}
	}
	if g := m.game(); g.Delay != 0 || g.Sound != 0 {
		t.Errorf("timers %d, %d", g.Delay, g.Sound)
	}
}

// Q is high for as many frames as the sound timer was set to, and low for the rest; the delay timer makes no tone.
func TestSound(t *testing.T) {
	for _, n := range []int{0, 1, 2, 5} {
		m := begun(t, []byte{0x61, byte(n), 0x62, 0xff, 0xf1, 0x18, 0xf2, 0x15, 0x12, 0x08})
		for range 4 {
			m.order()
		}
		beeps := 0
		for range 9 * frameCycles {
			if m.tick().Q {
				beeps++
			}
		}
		if beeps < n*frameCycles-20 || beeps > n*frameCycles+20 {
			t.Errorf("of %d Q was high in %d cycles", n, beeps)
		}
	}
}

// A tick that comes within FX15, FX18 or FX07 counts once, ahead of it or behind it.
func TestTicksWithin(t *testing.T) {
	abreast(t, 3, func(t *testing.T, n int) {
		d := uint64(2700 + n)
		m := begun(t, []byte{0x12, 0x00})
		for _, timers := range [][2]byte{{0, 0}, {1, 1}, {255, 255}, {1, 0}, {0, 1}, {2, 200}} {
			for ahead := 0; ahead < 100; ahead += 3 {
				g := anyGame(&d, []uint16{0xf415, 0xf418, 0xf407}[n])
				g.Delay, g.Sound, g.V[4] = timers[0], timers[1], timers[1-n%2]
				m.lay(g)
				m.interruptIn(ahead)
				m.order()
			}
		}
	})
}

// The timers go on while a key is waited for.
func TestTimersWhileWaiting(t *testing.T) {
	for _, n := range []byte{0, 1, 3, 200} {
		m := begun(t, []byte{0xf3, 0x0a, 0x12, 0x02})
		g := m.game()
		g.Delay, g.Sound = n, 2*n
		m.lay(g)
		ticks := m.hold(0, 5*frameCycles, "no key") + m.hold(1<<4, twoFrames, "4 down")
		m.found(g, 0, keyBound, ticks, fmt.Sprint(n), 4)
		if h := m.game(); int(h.Delay) > int(n) || n == 200 && int(h.Delay) > 200-6 {
			t.Errorf("from %d: %d", n, h.Delay)
		}
	}
}
