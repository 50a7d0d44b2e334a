package view

import (
	"bytes"
	"fmt"
	"slices"
	"testing"

	"vesper/api"
	"vesper/board"
	"vesper/game"
)

// wantGame holds Game of a machine against the twin.
func wantGame(t *testing.T, what string, m api.Board) (api.Game, bool) {
	t.Helper()
	want, should := theKit.stands(m)
	got, is := Game(m)
	if is != should || !sameGame(got, want) {
		t.Fatalf("%s: %s, %v; want %s, %v", what, briefGame(got), is, briefGame(want), should)
	}
	return got, is
}

// wantNone: Game tells false, with a game of noughts.
func wantNone(t *testing.T, what string, m api.Board) {
	t.Helper()
	if g, is := Game(m); is || !isNoGame(g) {
		t.Errorf("%s: %s, %v", what, briefGame(g), is)
	}
}

// atLoop is a machine at the fetch loop that stands for a game of all kinds with so many calls.
func atLoop(d *uint64, calls int) (api.Board, api.Game) {
	g := anyGame(d, calls)
	m := withGame(jumps[draw(d, 40)], g)
	return m, g
}

// P23.1: the game, with each number of calls; what lies below the stack, and between it and V0, is nobody's.
func TestGame(t *testing.T) {
	abreast(t, 13, func(t *testing.T, calls int) {
		d := uint64(100 + calls)
		for range 6 {
			m, g := atLoop(&d, calls)
			copy(m.RAM[0x0ea0:], mixed(&d, 0x0ecf-2*calls+1-0x0ea0))
			copy(m.RAM[0x0ed0:], mixed(&d, 0x20))
			got, is := wantGame(t, "at the fetch loop", m)
			if !is || !sameGame(got, g) {
				t.Fatalf("%s, %v; want %s", briefGame(got), is, briefGame(g))
			}
		}
	})
}

// P23.1: a machine stands for the same game whatever else of it is so or so: other registers, which of them counts, D, flags, T, the chip, the pad, how many cycles.
func TestGameElse(t *testing.T) {
	abreast(t, 16, func(t *testing.T, p int) {
		d := uint64(150 + p)
		for range 4 {
			m, g := atLoop(&d, draw(&d, 13))
			for _, n := range []int{0, 1, 3, 4, 6, 7, 9, 11, 12, 13, 14, 15} {
				m.CPU.R[n] = uint16(draw(&d, 65536))
			}
			c := &m.CPU
			c.P, c.X, c.D, c.T, c.Op = byte(p), byte(draw(&d, 16)), byte(draw(&d, 256)), byte(draw(&d, 256)), byte(draw(&d, 256))
			c.DF, c.IE, c.Q = draw(&d, 2) == 0, draw(&d, 2) == 0, draw(&d, 2) == 0
			m.Raster = api.Raster{Line: draw(&d, 262), Cycle: draw(&d, 14), On: draw(&d, 2) == 0}
			m.Pad.Latch, m.Cycles = byte(draw(&d, 16)), uint64(draw(&d, 1<<31))<<33
			c.R[p] = theKit.fetch
			switch p {
			case 2:
				wantNone(t, "R2 counts, there is no such stack", m)
				continue
			case 5:
				g.PC = theKit.fetch
			case 8:
				g.Delay, g.Sound = byte(theKit.fetch>>8), byte(theKit.fetch)
			case 10:
				g.I = theKit.fetch
			}
			got, is := wantGame(t, fmt.Sprintf("P %d", p), m)
			if !is || !sameGame(got, g) {
				t.Fatalf("P %d, %s: %s, %v; want %s", p, brief(m), briefGame(got), is, briefGame(g))
			}
		}
	})
}

// P23.1: each byte of a game, the only one that is not nought, at its place.
func TestGameByteByByte(t *testing.T) {
	none, _ := game.New(nil)
	bare := withGame(jumps[3], none)
	clear(bare.RAM[0x0ea0:])
	at := slices.Concat(
		[]int{0x0200, 0x0201, 0x02ff, 0x0300, 0x0e00, 0x0e9e, 0x0e9f, 0x0ea0, 0x0eb7, 0x0eb8},
		[]int{0x0ecc, 0x0ecd, 0x0ece, 0x0ecf, 0x0ed0, 0x0eef},
		[]int{0x0f00, 0x0f01, 0x0f07, 0x0f08, 0x0f80, 0x0ff8, 0x0ffe, 0x0fff},
	)
	for k := range 16 {
		at = append(at, 0x0ef0+k)
	}
	for k := range 24 {
		at = append(at, 0x0eb8+k)
	}
	abreast(t, len(at), func(t *testing.T, k int) {
		for _, calls := range []int{0, 12} {
			m := copyBoard(bare)
			m.CPU.R[2] = uint16(0x0ecf - 2*calls)
			m.RAM[at[k]] = 0xa7
			if _, is := wantGame(t, fmt.Sprintf("the byte at %04x, %d calls", at[k], calls), m); !is {
				t.Fatalf("the byte at %04x, %d calls: no game", at[k], calls)
			}
		}
	})
}

// P23.1: the program counter, I and the timers at 0, at each of their bits, at their greatest.
func TestGameRegisters(t *testing.T) {
	words := []uint16{0, 0x00ff, 0xff00, 0xffff, 0x0e9f, 0x1234}
	for k := range 16 {
		words = append(words, 1<<k)
	}
	abreast(t, len(words), func(t *testing.T, k int) {
		d := uint64(180 + k)
		w := words[k]
		for n, tell := range map[int]func(g api.Game) uint16{
			5:  func(g api.Game) uint16 { return g.PC },
			8:  func(g api.Game) uint16 { return uint16(g.Delay)<<8 | uint16(g.Sound) },
			10: func(g api.Game) uint16 { return g.I },
		} {
			m, _ := atLoop(&d, 2)
			m.CPU.R[n] = w
			if g, is := wantGame(t, fmt.Sprintf("R%X %04x", n, w), m); !is || tell(g) != w {
				t.Errorf("R%X %04x: %04x, %v", n, w, tell(g), is)
			}
		}
	})
}

// P23.1: every place of R2 about the stack, and some far off.
func TestGameStacks(t *testing.T) {
	d := uint64(200)
	m, _ := atLoop(&d, 12)
	places := []uint16{0, 1, 0x00cf, 0x0dcf, 0x1ecf, 0x8ecf, 0xfecf, 0xffff, 0x0fff, 0x0f00, 0x0eff, 0x0000}
	for at := uint16(0x0ea0); at <= 0x0ef0; at++ {
		places = append(places, at)
	}
	abreast(t, len(places), func(t *testing.T, k int) {
		m := copyBoard(m)
		m.CPU.R[2] = places[k]
		g, is := wantGame(t, fmt.Sprintf("R2 %04x", places[k]), m)
		if right := places[k] >= 0x0eb7 && places[k] <= 0x0ecf && places[k]%2 == 1; is != right || is && len(g.Stack) != (0x0ecf-int(places[k]))/2 {
			t.Errorf("R2 %04x: %d calls, %v", places[k], len(g.Stack), is)
		}
	})
}

// P23.1: RAM of each other size, however it begins and ends.
func TestGameSizes(t *testing.T) {
	d := uint64(210)
	base, _ := atLoop(&d, 3)
	for _, n := range []int{0, 1, 511, 512, 2047, 2048, 4095, 4097, 6144, 8192, 32768, 32769, 65536} {
		m := copyBoard(base)
		m.RAM = slices.Concat(base.RAM, base.RAM, make([]byte, 60000))[:n]
		wantNone(t, fmt.Sprintf("%d bytes of RAM", n), m)
	}
	// All memory that a machine may have, that of the interpreter again and again.
	m := copyBoard(base)
	m.RAM = bytes.Repeat(base.RAM, 8)
	wantNone(t, "32768 bytes of RAM", m)
	for _, n := range []int{0, 1, 511, 513, 1024} {
		m := copyBoard(base)
		m.ROM = append(m.ROM, m.ROM...)[:n]
		wantNone(t, fmt.Sprintf("%d bytes of ROM", n), m)
	}
	wantGame(t, "as it was", base)
}

// P23.1: one byte of the first 512, or of ROM, another one; each byte once.
func TestGameOfOtherBytes(t *testing.T) {
	abreast(t, 16, func(t *testing.T, n int) {
		d := uint64(220 + n)
		m, g := atLoop(&d, n%13)
		for at := n; at < 512; at += 16 {
			for _, memory := range [][]byte{m.RAM, m.ROM} {
				was := memory[at]
				memory[at] ^= 1 << draw(&d, 8)
				wantNone(t, fmt.Sprintf("another byte at %04x", at), m)
				memory[at] = was
			}
		}
		if got, is := Game(m); !is || !sameGame(got, g) {
			t.Errorf("all as it was: %s, %v", briefGame(got), is)
		}
	})
}

// P23.1: what a machine can lack alone.
func TestGameLacks(t *testing.T) {
	d := uint64(240)
	base, _ := atLoop(&d, 5)
	if _, is := wantGame(t, "as it is", base); !is {
		t.Fatal("no game")
	}
	lacks := map[string]func(m *api.Board){
		"the latch is set":       func(m *api.Board) { m.Latch = true },
		"R(P) is one more":       func(m *api.Board) { m.CPU.R[m.CPU.P]++ },
		"R(P) is one less":       func(m *api.Board) { m.CPU.R[m.CPU.P]-- },
		"R(P) is 0":              func(m *api.Board) { m.CPU.R[m.CPU.P] = 0 },
		"R(P) has another page":  func(m *api.Board) { m.CPU.R[m.CPU.P] ^= 0x0100 },
		"R(P) is in ROM":         func(m *api.Board) { m.CPU.R[m.CPU.P] ^= 0x8000 },
		"R(P) is 4096 more":      func(m *api.Board) { m.CPU.R[m.CPU.P] += 4096 },
		"another register is P":  func(m *api.Board) { m.CPU.P = 1 },
		"P is 16":                func(m *api.Board) { m.CPU.P = 16 },
		"P is 255":               func(m *api.Board) { m.CPU.P = 255 },
		"P is 16 more":           func(m *api.Board) { m.CPU.P += 16 },
		"X is 16":                func(m *api.Board) { m.CPU.X = 16 },
		"X is 255":               func(m *api.Board) { m.CPU.X = 255 },
		"B is 1":                 func(m *api.Board) { m.CPU.B = 1 },
		"the line is 262":        func(m *api.Board) { m.Raster = api.Raster{Line: 262} },
		"the line is below 0":    func(m *api.Board) { m.Raster = api.Raster{Line: -1} },
		"the line's cycle is 14": func(m *api.Board) { m.Raster = api.Raster{Cycle: 14} },
		"the pad's latch is 16":  func(m *api.Board) { m.Pad.Latch = 16 },
		"the pad's latch is 255": func(m *api.Board) { m.Pad.Latch = 255 },
		"no RAM":                 func(m *api.Board) { m.RAM = nil },
		"no ROM":                 func(m *api.Board) { m.ROM = nil },
		"RAM and ROM exchanged":  func(m *api.Board) { m.RAM, m.ROM = m.ROM, m.RAM },
		"nothing at all":         func(m *api.Board) { *m = api.Board{} },
	}
	for phase := range 256 {
		if phase != int(api.Fetch) {
			lacks[fmt.Sprintf("the phase is %d", phase)] = func(m *api.Board) {
				m.CPU.Phase, m.CPU.Op, m.CPU.B = api.Phase(phase), 0, 0
			}
		}
	}
	for what, take := range lacks {
		m := copyBoard(base)
		take(&m)
		wantNone(t, what, m)
	}
	// Phases of machines that may be, with the op that they want.
	for _, phase := range []api.Phase{api.Execute, api.Second, api.Idle, api.Begin, api.DMAIn, api.DMAOut, api.Interrupt} {
		m := copyBoard(base)
		m.CPU.Phase = phase
		if phase == api.Second {
			m.CPU.Op = 0xc0
		}
		if board.Check(m) != api.OK {
			m.CPU.Op = 0
		}
		if e := board.Check(m); e != api.OK {
			t.Errorf("the phase %d may not be: %d", phase, e)
		}
		wantNone(t, fmt.Sprintf("the phase %d, of a machine that may be", phase), m)
	}
}

// P23.1: machines whose parts are anything at all: Game always answers.
func TestGameOfAnything(t *testing.T) {
	abreast(t, 16, func(t *testing.T, n int) { anythingAtAll(t, uint64(250+n)) })
}

func anythingAtAll(t *testing.T, d uint64) {
	for range 60 {
		m, _ := atLoop(&d, draw(&d, 13))
		for range draw(&d, 3) {
			switch draw(&d, 12) {
			case 0:
				m.CPU.P = byte(draw(&d, 256))
			case 1:
				m.CPU.X = byte(draw(&d, 256))
			case 2:
				m.CPU.Phase = api.Phase(draw(&d, 256))
			case 3:
				m.CPU.R[2] = uint16(draw(&d, 65536))
			case 4:
				m.CPU.R[m.CPU.P%16] = uint16(draw(&d, 520))
			case 5:
				m.RAM = m.RAM[:draw(&d, len(m.RAM)+1)]
			case 6:
				m.ROM = m.ROM[:draw(&d, len(m.ROM)+1)]
			case 7:
				m.Raster = api.Raster{Line: draw(&d, 600) - 300, Cycle: draw(&d, 40) - 20, On: true, Got: draw(&d, 20) - 5}
			case 8:
				m.Pad.Latch = byte(draw(&d, 256))
			case 9:
				m.Latch = true
			case 10:
				if len(m.RAM) > 0 {
					m.RAM[draw(&d, len(m.RAM))] ^= 0x40
				}
			case 11:
				m.CPU.Op = byte(draw(&d, 256))
			}
		}
		wantGame(t, brief(m), m)
	}
}

// P23.1: a machine that is configured for games, and has not come to its fetch loop; and all that it goes through up to that, and somewhat beyond.
func TestGameFromPowerOn(t *testing.T) {
	d := uint64(260)
	v := gameVIP(t, mixed(&d, 3232)...)
	b := v.Board.Clone()
	games := 0
	for range int(jumps[8].Cycles) {
		s := b.State()
		if _, is := wantGame(t, fmt.Sprintf("behind %d cycles", s.Cycles), s); is {
			games++
			if s.Cycles < jumps[0].Cycles {
				t.Errorf("a game behind %d cycles", s.Cycles)
			}
		}
		b.Step(api.Span{Cycles: 1})
	}
	if games == 0 {
		t.Error("no game")
	}
}
