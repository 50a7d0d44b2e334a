package view

import (
	"fmt"
	"math"
	"slices"
	"testing"

	"vesper/api"
	"vesper/board"
	"vesper/game"
)

// wantLaid holds Lay of a game against the machine that jumps on the spot, at that beat, with the game in its places.
func wantLaid(t *testing.T, g api.Game, beats int) api.Board {
	t.Helper()
	m := mustLay(t, g, beats)
	if want := withGame(jumps[beats], g); !sameBoard(m, want) {
		t.Fatalf("Lay of %s at %d: %s; want %s, or other bytes", briefGame(g), beats, brief(m), brief(want))
	}
	if e := board.Check(m); e != api.OK {
		t.Fatalf("Lay of %s at %d: a machine that may not be, %d", briefGame(g), beats, e)
	}
	return m
}

// wantNoLay: Lay tells that error, and nothing else.
func wantNoLay(t *testing.T, what string, g api.Game, beats int, want api.Errno) {
	t.Helper()
	if m, e := Lay(g, beats); e != want || !sameBoard(m, api.Board{}) {
		t.Errorf("%s at %d: %s, %d; want %d", what, beats, brief(m), e, want)
	}
}

// P23.3, P23.4: games of all kinds, with each number of calls, at the first beats and at others; Game of each is the game again.
func TestLay(t *testing.T) {
	abreast(t, 39, func(t *testing.T, n int) {
		d := uint64(500 + n)
		for k := range 4 {
			g := anyGame(&d, n%13)
			beats := n*4 + k
			m := wantLaid(t, g, beats)
			if h, is := wantGame(t, fmt.Sprintf("laid at %d", beats), m); !is || !sameGame(h, g) {
				t.Fatalf("laid at %d: %s, %v; want %s", beats, briefGame(h), is, briefGame(g))
			}
		}
	})
}

// P23.3: the greatest numbers of beats, those beside them, and those that may not be.
func TestLayBeats(t *testing.T) {
	abreast(t, 16, func(t *testing.T, n int) {
		d := uint64(550 + n)
		g := anyGame(&d, draw(&d, 13))
		for _, beats := range []int{0, 1, 2, 985 + n, 1000, 160 + 51*n} {
			wantLaid(t, g, beats)
		}
		for _, beats := range []int{-1, -2 - n, 1001, 1002 + n, 65536, -65536, 1 << 32, 1<<32 + 1, math.MaxInt, math.MinInt} {
			wantNoLay(t, "a game", g, beats, api.ErrArg)
		}
	})
}

// P23.3: games that game.Check refuses, ahead of numbers that may not be.
func TestLayRefused(t *testing.T) {
	d := uint64(570)
	wrong := map[string]func(g *api.Game){
		"no page":              func(g *api.Game) { g.Page = nil },
		"a page of 255":        func(g *api.Game) { g.Page = g.Page[:255] },
		"a page of 257":        func(g *api.Game) { g.Page = append(g.Page, 0) },
		"no memory":            func(g *api.Game) { g.Memory = nil },
		"a memory of 3231":     func(g *api.Game) { g.Memory = g.Memory[:3231] },
		"a memory of 3233":     func(g *api.Game) { g.Memory = append(g.Memory, 0) },
		"a memory of 4096":     func(g *api.Game) { g.Memory = make([]byte, 4096) },
		"thirteen calls":       func(g *api.Game) { g.Stack = make([]uint16, 13) },
		"very many calls":      func(g *api.Game) { g.Stack = make([]uint16, 2000) },
		"nothing at all":       func(g *api.Game) { *g = api.Game{} },
		"page, memory and all": func(g *api.Game) { g.Page, g.Memory, g.Stack = g.Memory, g.Page, make([]uint16, 13) },
	}
	for what, spoil := range wrong {
		g := anyGame(&d, draw(&d, 13))
		spoil(&g)
		if e := game.Check(g); e != api.ErrGameState {
			t.Fatalf("%s: game.Check = %d", what, e)
		}
		for _, beats := range []int{-1, 0, 1, 1000, 1001} {
			wantNoLay(t, what, g, beats, api.ErrGameState)
		}
	}
}

// P23.3, P23.4: each thing of a game alone, all else being nought; with all of it at its greatest.
func TestLayAlone(t *testing.T) {
	full := func(n int) []byte { return slices.Repeat([]byte{0xff}, n) }
	alone := []func(g *api.Game){
		func(g *api.Game) {},
		func(g *api.Game) { g.I = 0xffff },
		func(g *api.Game) { g.PC = 0xffff },
		func(g *api.Game) { g.PC = 0 },
		func(g *api.Game) { g.Delay = 255 },
		func(g *api.Game) { g.Sound = 255 },
		func(g *api.Game) { g.Page = full(256) },
		func(g *api.Game) { g.Page[0], g.Page[255] = 0x80, 1 },
		func(g *api.Game) { g.Memory = full(3232) },
		func(g *api.Game) { g.Memory[0], g.Memory[3231] = 0x80, 1 },
		func(g *api.Game) { g.V[0] = 255 },
		func(g *api.Game) { g.V[15] = 255 },
		func(g *api.Game) { g.Stack = []uint16{0xff00} },
		func(g *api.Game) { g.Stack = []uint16{0x00ff} },
		func(g *api.Game) { g.Stack = []uint16{0, 0x1234} },
		func(g *api.Game) { g.Stack = slices.Repeat([]uint16{0xffff}, 12) },
		func(g *api.Game) { g.Stack = make([]uint16, 12) },
		func(g *api.Game) { g.Stack = []uint16{1, 2, 3, 4, 5, 6, 7, 8, 9, 10, 11, 12} },
		func(g *api.Game) {
			g.I, g.PC, g.Delay, g.Sound, g.Page, g.Memory, g.Stack = 0xffff, 0xffff, 255, 255, full(256), full(3232), slices.Repeat([]uint16{0xffff}, 12)
			g.V = [16]byte(full(16))
		},
	}
	abreast(t, len(alone), func(t *testing.T, n int) {
		g, _ := game.New(nil)
		alone[n](&g)
		for _, beats := range []int{0, 3, 17} {
			if h, is := Game(wantLaid(t, g, beats)); !is || !sameGame(h, g) {
				t.Errorf("at %d: %s, %v; want %s", beats, briefGame(h), is, briefGame(g))
			}
		}
	})
}

// P23.3: the machine that stands for game.New of 12 00 is, at each beat, the one that jumps on the spot.
func TestLayOfTheSame(t *testing.T) {
	abreast(t, 24, func(t *testing.T, n int) {
		beats := n * n
		g, _ := game.New([]byte{0x12, 0x00})
		if m := mustLay(t, g, beats); !sameBoard(m, jumps[beats]) {
			t.Errorf("at %d: %s; want %s", beats, brief(m), brief(jumps[beats]))
		}
	})
}

// P23.3: of two machines with other games at the same beat all else is the same; at other beats the cycles grow.
func TestLayElse(t *testing.T) {
	d := uint64(590)
	last := uint64(0)
	for beats := range 20 {
		one, two := mustLay(t, anyGame(&d, 12), beats), mustLay(t, anyGame(&d, 12), beats)
		if one.Cycles <= last && beats > 0 {
			t.Errorf("the beat %d: behind %d cycles, the one ahead of it behind %d", beats, one.Cycles, last)
		}
		last = one.Cycles
		for _, m := range []*api.Board{&one, &two} {
			r := &m.CPU.R
			r[2], r[5], r[8], r[10] = 0, 0, 0, 0
			clear(m.RAM[0x200:0xea0])
			clear(m.RAM[0xeb8:0xed0])
			clear(m.RAM[0xef0:])
		}
		if !sameBoard(one, two) {
			t.Fatalf("at %d: %s; and %s", beats, brief(one), brief(two))
		}
	}
}
