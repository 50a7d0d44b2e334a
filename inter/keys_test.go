package inter

import (
	"fmt"
	"testing"

	"vesper/api"
)

// EX9E and EXA1 with each key, by VX's low four bits, alone, among others, and beside others.
func TestSkipByKeys(t *testing.T) {
	abreast(t, 16, func(t *testing.T, key int) {
		d := uint64(2000 + key)
		m := begun(t, []byte{0x12, 0x00})
		for _, keys := range []uint16{0, 1 << key, 0xffff, ^uint16(1 << key), uint16(draw(&d, 65536))} {
			for _, kind := range []uint16{0xe09e, 0xe0a1} {
				for _, x := range []uint16{0, 6, 14, 15} {
					g := anyGame(&d, kind|x<<8)
					g.V[x] = byte(draw(&d, 16)<<4 | key)
					m.keys = keys
					m.lay(g)
					m.order()
					skips := keys>>key&1 == 1 == (kind == 0xe09e)
					if h := m.game(); skips != (h.PC == g.PC+4) {
						t.Errorf("keys %04x, %04x with %02x: from %04x to %04x", keys, kind|x<<8, g.V[x], g.PC, h.PC)
					}
				}
			}
		}
	})
}

// waits is a machine that has begun with OpKey, VX being another one for each key, at many moments of a frame.
func waits(t *testing.T, d *uint64, x uint16) (*machine, api.Game) {
	t.Helper()
	m := begun(t, []byte{0x12, 0x00})
	g := anyGame(d, 0xf00a|x<<8)
	m.lay(g)
	m.interruptIn(draw(d, 1820))
	return m, g
}

// hold lets so many cycles pass with some keys down, in which no beat may come.
func (m *machine) hold(keys uint16, cycles int, what string) int {
	m.t.Helper()
	m.keys = keys
	p, came := m.beat(cycles)
	if came {
		m.t.Fatalf("%s: a beat came behind %d of %d cycles, keys %04x", what, p.cycles, cycles, keys)
	}
	return p.ticks
}

// found lets the machine go on with some keys down till the next beat; OpKey must have found one of them.
func (m *machine) found(g api.Game, keys uint16, most, ticks int, what string, among ...int) {
	m.t.Helper()
	m.keys = keys
	p, came := m.beat(most)
	if !came {
		m.t.Fatalf("%s: no beat in %d cycles", what, most)
	}
	h := m.game()
	x := g.Memory[g.PC-0x200] & 15
	if !m.behind(g, h, feed(h.V[x], keys), ticks+p.ticks) {
		m.t.Fatalf("%s: PC %04x to %04x, V %x to %x, timers %d %d to %d %d", what, g.PC, h.PC, g.V, h.V, g.Delay, g.Sound, h.Delay, h.Sound)
	}
	for _, k := range among {
		if int(h.V[x]) == k {
			return
		}
	}
	m.t.Errorf("%s: V%X is %d", what, x, h.V[x])
}

// keyBound is OpKey's.
var keyBound = Bound(api.Order{Op: api.OpKey})

// P20.5: a key that is down already counts, when it goes up, wherever the frame begins; while it is down nothing is done.
func TestKeyDownAlready(t *testing.T) {
	abreast(t, 48, func(t *testing.T, n int) {
		d, key := uint64(2100+n), n%16
		m, g := waits(t, &d, uint16(n/3%16))
		m.keys = 1 << key
		ticks := m.hold(1<<key, twoFrames+draw(&d, 3*frameCycles), "down already")
		m.found(g, 0, keyBound, ticks, "down already", key)
	})
}

// P20.5, T4: a key that goes down later.
func TestKeyGoesDown(t *testing.T) {
	abreast(t, 48, func(t *testing.T, n int) {
		d, key := uint64(2200+n), n%16
		m, g := waits(t, &d, uint16(15-n/3%16))
		ticks := m.hold(0, 1+draw(&d, 3*frameCycles), "none as yet")
		ticks += m.hold(1<<key, twoFrames, "down")
		m.found(g, 0, twoFrames+keyBound, ticks, "up again", key)
	})
}

// Nothing comes of no key, however long.
func TestNoKey(t *testing.T) {
	d := uint64(2300)
	m, g := waits(t, &d, 3)
	ticks := m.hold(0, 20*frameCycles, "no key")
	ticks += m.hold(1<<9, twoFrames, "9 down")
	m.found(g, 0, twoFrames+keyBound, ticks, "9 up", 9)
}

// P20.5: of several keys the first one that is found is waited for.
func TestSeveralKeys(t *testing.T) {
	abreast(t, 48, func(t *testing.T, n int) {
		d := uint64(2400 + n)
		i, j := n%16, (n+1+n/16*5)%16
		m, g := waits(t, &d, uint16(n%16))
		both := uint16(1<<i | 1<<j)
		ticks := m.hold(both, twoFrames+draw(&d, frameCycles), "both down")
		m.found(g, 0, keyBound, ticks, "both up", i, j)

		m, g = waits(t, &d, 7)
		ticks = m.hold(0xffff, twoFrames, "all down")
		m.found(g, 0, keyBound, ticks, "all up", 0, 1, 2, 3, 4, 5, 6, 7, 8, 9, 10, 11, 12, 13, 14, 15)
	})
}

// P20.5: another key that is down does not stand in for the one that was found: that must go up, and that is enough.
func TestOneUpOneDown(t *testing.T) {
	abreast(t, 48, func(t *testing.T, n int) {
		d := uint64(2500 + n)
		i, j := n%16, (n+1+n/16*3)%16
		what := fmt.Sprintf("%x, then %x", i, j)
		m, g := waits(t, &d, uint16(n%16))
		ticks := m.hold(1<<i, twoFrames, what)
		ticks += m.hold(1<<i|1<<j, twoFrames, what+" too")
		m.found(g, 1<<j, keyBound, ticks, what+" alone", i)
		// The next OpKey finds the one that is down still.
		g = anyGame(&d, 0xfb0a)
		m.lay(g)
		ticks = m.hold(1<<j, twoFrames, what+" still")
		m.found(g, 0, keyBound, ticks, what+" up", j)
	})
}

// A key is given up by another one that goes down in the same cycle: the first one has gone up.
func TestKeyBehindKey(t *testing.T) {
	abreast(t, 16, func(t *testing.T, i int) {
		d := uint64(2600 + i)
		j := (i + 7) % 16
		m, g := waits(t, &d, 2)
		ticks := m.hold(1<<i, twoFrames, "the first one")
		m.found(g, 1<<j, keyBound, ticks, "the second one", i)
	})
}
