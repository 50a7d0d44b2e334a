package game

import (
	"fmt"
	"math"
	"testing"

	"vesper/api"
)

// varied is a game of a program in which no two parts are alike.
func varied(t *testing.T, program string) api.Game {
	return begun(t, program, func(g *api.Game) {
		for k := range g.V {
			g.V[k] = byte(0x11*k + 3)
		}
		g.I, g.Delay, g.Sound, g.Stack = 0x345, 0x77, 0x88, []uint16{0x222, 0x344, 0xffff}
		for k := range g.Page {
			g.Page[k] = byte(k) ^ 0x5a
		}
		for k := len(program) / 2; k < len(g.Memory); k++ {
			g.Memory[k] = byte(k*7 + k/256)
		}
	})
}

// P18.4: OpClear, from pages of all kinds.
func TestClear(t *testing.T) {
	wantDone(t, varied(t, "00e0"), digits(), none, func(g *api.Game) { clear(g.Page) })
	wantDone(t, begun(t, "00e0", nil), digits(), none, func(g *api.Game) {})
	for k := range 256 {
		g := begun(t, "00e0", func(g *api.Game) { g.Page[k] = 1 })
		wantDone(t, g, digits(), none, func(g *api.Game) { g.Page[k] = 0 })
	}
}

// P18.4: OpJump and OpJumpBy, to all places, outside too.
func TestJumps(t *testing.T) {
	g := varied(t, "0000")
	for at := range 4096 {
		wantDone(t, laid(g, 0x1000|at), digits(), none, func(g *api.Game) { g.PC = uint16(at) })
		g.V[0] = byte(at * 37)
		wantDone(t, laid(g, 0xb000|at), digits(), none, func(g *api.Game) { g.PC = uint16(at + int(g.V[0])) })
	}
	for _, x := range []struct {
		program string
		v0      byte
		pc      uint16
	}{{"bfff", 255, 0x10fe}, {"bfff", 1, 0x1000}, {"b000", 0, 0}, {"b0ff", 1, 0x100}, {"b300", 7, 0x307}, {"bf00", 255, 0xfff}} {
		g := begun(t, x.program, func(g *api.Game) { g.V[0], g.V[3], g.V[15] = x.v0, 0x99, 0x99 })
		wantDone(t, g, digits(), none, func(g *api.Game) { g.PC = x.pc })
	}
}

// P18.4: calls up to twelve and a thirteenth, from the last place too; returns to any words, without a call.
func TestCallsAndReturns(t *testing.T) {
	for depth := range 13 {
		g := varied(t, "2abc")
		g.Stack = nil
		for k := range depth {
			g.Stack = append(g.Stack, uint16(0x1111*k))
		}
		for _, pc := range []uint16{0x200, 0x201, 0x7ff, 0xe9e} {
			h := twinCopy(g)
			h.PC = pc
			h = laid(h, 0x2abc)
			if depth == 12 {
				wantStuck(t, h, digits(), none, api.Deep)
				continue
			}
			wantDone(t, h, digits(), none, func(g *api.Game) { g.Stack, g.PC = append(g.Stack, pc+2), 0xabc })
		}
		g = laid(g, 0x00ee)
		if depth == 0 {
			wantStuck(t, g, digits(), none, api.Empty)
			continue
		}
		wantDone(t, g, digits(), none, func(g *api.Game) {
			g.PC, g.Stack = g.Stack[depth-1], g.Stack[:depth-1]
		})
	}
	for _, a := range []uint16{0, 0x1ff, 0x200, 0xe9f, 0xea0, 0xfffe, 0xffff} {
		g := begun(t, "00ee", func(g *api.Game) { g.Stack = []uint16{0x321, a} })
		wantDone(t, g, digits(), none, func(g *api.Game) { g.PC, g.Stack = a, []uint16{0x321} })
	}
}

// P18.4: twelve calls one in the other, a thirteenth that is Deep, twelve returns and a thirteenth that is Empty.
func TestTwelveCalls(t *testing.T) {
	var program string
	for k := range 12 {
		program += fmt.Sprintf("2%03x", 0x202+2*k) // each calls the order behind it
	}
	g := begun(t, program+"2200", nil)
	g = steps(t, g, 12)
	wantStuck(t, g, digits(), none, api.Deep)
	if len(g.Stack) != 12 || g.Stack[0] != 0x202 || g.Stack[11] != 0x218 || g.PC != 0x218 {
		t.Fatalf("twelve calls: %s", told(g))
	}
	for k := 11; k >= 0; k-- {
		g = steps(t, laid(g, 0x00ee), 1)
		if int(g.PC) != 0x202+2*k || len(g.Stack) != k {
			t.Fatalf("%d calls are left: %s", k, told(g))
		}
	}
	wantStuck(t, laid(g, 0x00ee), digits(), none, api.Empty)
}

// wantSkip: the order at PC skips just if that is so, and does nothing else.
func wantSkip(t *testing.T, g api.Game, in api.Feed, yes bool) {
	t.Helper()
	wantDone(t, g, digits(), in, func(g *api.Game) {
		if yes {
			g.PC += 2
		}
	})
}

// P18.4: skips by a byte and by another V, VX and VY the same and VF among them; at the end of the memory, too.
func TestSkips(t *testing.T) {
	values := []byte{0, 1, 0x7f, 0x80, 0xfe, 0xff}
	base := varied(t, "")
	for _, pc := range []uint16{0x200, 0x3ff, 0xe9c, 0xe9d, 0xe9e} {
		base.PC = pc
		for _, x := range []int{0, 1, 7, 15} {
			for _, y := range []int{0, 1, 7, 15} {
				for _, a := range values {
					for _, b := range values {
						g := twinCopy(base)
						g.V[x] = a
						g.V[y] = b
						wantSkip(t, laid(g, 0x5000|x<<8|y<<4), none, x == y || a == b)
						wantSkip(t, laid(g, 0x9000|x<<8|y<<4), none, x != y && a != b)
						wantSkip(t, laid(g, 0x3000|y<<8|int(a)), none, a == b)
						wantSkip(t, laid(g, 0x4000|y<<8|int(a)), none, a != b)
					}
				}
			}
		}
	}
	// The next order of a skip at the end lies outside.
	g := steps(t, begun(t, "1e9e", func(g *api.Game) { copy(g.Memory[3230:], bin("3000")) }), 2)
	if g.PC != 0xea2 {
		t.Errorf("a skip at the end: %s", told(g))
	}
	wantStuck(t, g, digits(), none, api.Outside)
}

// P18.4: skips by keys: each key alone, each value of VX, whatever Key is.
func TestSkipsByKeys(t *testing.T) {
	g := begun(t, "", nil)
	for v := range 256 {
		g.V[4], g.V[15] = byte(v), byte(v)
		for k := range 16 {
			for _, keys := range []uint16{1 << k, ^uint16(1 << k)} {
				down := keys>>(v%16)&1 == 1
				for _, in := range []api.Feed{{Keys: keys, Key: -1}, {Keys: keys, Key: (v + 1) % 16, Random: 0xff}} {
					wantSkip(t, laid(g, 0xe49e), in, down)
					wantSkip(t, laid(g, 0xe4a1), in, !down)
					wantSkip(t, laid(g, 0xef9e), in, down)
					wantSkip(t, laid(g, 0xefa1), in, !down)
				}
			}
		}
	}
}

// P18.4: OpSet, OpAdd, OpMove of every V; VF is touched just as VX.
func TestSetAddMove(t *testing.T) {
	for x := range 16 {
		for _, nn := range []int{0, 1, 0x5a, 0x80, 0xfe, 0xff} {
			for _, v := range []byte{0, 1, 2, 0x7f, 0x80, 0xff} {
				g := varied(t, "0000")
				g.V[x] = v
				wantDone(t, laid(g, 0x6000|x<<8|nn), digits(), none, func(g *api.Game) { g.V[x] = byte(nn) })
				wantDone(t, laid(g, 0x7000|x<<8|nn), digits(), none, func(g *api.Game) { g.V[x] = byte((int(v) + nn) % 256) })
			}
		}
		for y := range 16 {
			g := varied(t, "0000")
			wantDone(t, laid(g, 0x8000|x<<8|y<<4), digits(), none, func(g *api.Game) { g.V[x] = g.V[y] })
		}
	}
}

// P18.4: OpOr, OpAnd, OpPlus, OpMinus of all two bytes, of two V apart from VF.
func TestSumsOfAllBytes(t *testing.T) {
	g := begun(t, "", nil)
	for a := range 256 {
		for b := range 256 {
			g.V[3], g.V[9], g.V[15] = byte(a), byte(b), byte(a+b)|2
			for n, want := range map[int][2]int{1: {a | b, 0}, 2: {a & b, 0}, 4: {(a + b) & 255, (a + b) >> 8}, 5: {(a - b) & 255, 1 - (a-b)>>8&1}} {
				copy(g.Memory, []byte{0x83, 0x90 | byte(n)})
				h, out, e := Step(g, api.Font{}, none)
				v := g.V
				v[3], v[15] = byte(want[0]), byte(want[1])
				if h.V != v || h.PC != 0x202 || out != api.Done || e != api.OK {
					t.Fatalf("839%d of %02x, %02x: %x, PC %04x, %d, %d; want %x", n, a, b, h.V, h.PC, out, e, v)
				}
			}
		}
	}
}

// P18.4: these with VX and VY the same, and VF as VX, as VY and as both: what is told last of VF stays.
func TestSumsWithVF(t *testing.T) {
	for _, x := range []struct {
		program string
		v1, vf  byte
		is1     byte
		isF     byte
	}{
		{"81f1", 0x0f, 0xf1, 0xff, 0}, {"8f11", 0x0f, 0xf1, 0x0f, 0}, {"8ff1", 9, 0xf1, 9, 0}, {"8111", 0x77, 5, 0x77, 0},
		{"81f2", 0x3f, 0xf1, 0x31, 0}, {"8f12", 0x3f, 0xf1, 0x3f, 0}, {"8ff2", 9, 0xf1, 9, 0}, {"8112", 0x77, 5, 0x77, 0},
		{"81f4", 200, 100, 44, 1}, {"81f4", 100, 100, 200, 0}, {"8f14", 200, 100, 200, 1}, {"8f14", 1, 7, 1, 0}, {"8ff4", 9, 128, 9, 1}, {"8ff4", 9, 127, 9, 0}, {"8114", 128, 5, 0, 1}, {"8114", 127, 5, 254, 0},
		{"81f4", 255, 1, 0, 1}, {"81f4", 255, 0, 255, 0}, {"8f14", 255, 255, 255, 1}, {"8f14", 128, 127, 128, 0},
		{"81f5", 7, 5, 2, 1}, {"81f5", 5, 7, 254, 0}, {"81f5", 5, 5, 0, 1}, {"8f15", 7, 5, 7, 0}, {"8f15", 5, 7, 5, 1}, {"8f15", 0, 255, 0, 1}, {"8ff5", 9, 7, 9, 1}, {"8ff5", 9, 0, 9, 1}, {"8115", 9, 77, 0, 1}, {"8115", 0, 0, 0, 1},
		{"81f0", 7, 5, 5, 5}, {"8f10", 7, 5, 7, 7}, {"8ff0", 7, 5, 7, 5}, {"7fff", 1, 2, 1, 1}, {"71ff", 2, 77, 1, 77}, {"6f07", 1, 2, 1, 7},
	} {
		g := begun(t, x.program, func(g *api.Game) { g.V[1], g.V[15] = x.v1, x.vf })
		wantDone(t, g, digits(), none, func(g *api.Game) { g.V[1], g.V[15] = x.is1, x.isF })
	}
	for _, n := range []int{1, 2, 4, 5} {
		for x := range 16 {
			for y := range 16 {
				for _, a := range []byte{0, 1, 0x55, 0x80, 0xff} {
					for _, b := range []byte{0, 1, 0x55, 0x81, 0xff} {
						g := varied(t, "0000")
						g.V[x] = a
						g.V[y] = b
						wantTwin(t, laid(g, 0x8000|x<<8|y<<4|n), digits(), none)
					}
				}
			}
		}
	}
}

// P18.4: OpPoint, OpOn and OpDigit: I to all places, beyond 65535 from 0 on again; VF is not touched.
func TestWhereIPoints(t *testing.T) {
	for at := 0; at < 4096; at += 7 {
		wantDone(t, laid(varied(t, "0000"), 0xa000|at), digits(), none, func(g *api.Game) { g.I = uint16(at) })
	}
	wantDone(t, varied(t, "afff"), digits(), none, func(g *api.Game) { g.I = 0xfff })
	for _, x := range []struct {
		i  uint16
		v  byte
		is uint16
	}{{0xffff, 1, 0}, {0xffff, 255, 254}, {0xff01, 255, 0}, {0xff00, 255, 0xffff}, {0xfff, 1, 0x1000}, {0xffe, 3, 0x1001}, {0, 0, 0}, {0xffff, 0, 0xffff}, {0x7fff, 1, 0x8000}} {
		for k := range 16 {
			g := begun(t, "0000", func(g *api.Game) { g.I, g.V[15], g.V[k] = x.i, 0x99, x.v })
			wantDone(t, laid(g, 0xf01e|k<<8), digits(), none, func(g *api.Game) { g.I = x.is })
		}
	}
	f := api.Font{}
	for k := range f.At {
		f.At[k] = uint16(0xffff - 0x1234*k)
	}
	for v := range 256 {
		for _, k := range []int{0, 6, 15} {
			g := begun(t, "0000", func(g *api.Game) { g.V[k], g.I = byte(v), 0x345 })
			wantDone(t, laid(g, 0xf029|k<<8), f, none, func(g *api.Game) { g.I = f.At[v%16] })
			wantDone(t, laid(g, 0xf029|k<<8), digits(), none, func(g *api.Game) { g.I = uint16(0x8000 + 5*(v%16)) })
		}
	}
}

// P18.4: OpRandom of every random byte and every mask, into VF too.
func TestRandom(t *testing.T) {
	g := begun(t, "", nil)
	for r := range 256 {
		for nn := range 256 {
			g.V[2], g.V[15] = 0x99, 0x99
			copy(g.Memory, []byte{0xc2, byte(nn)})
			h, out, e := Step(g, api.Font{}, api.Feed{Random: byte(r), Key: -1})
			if want := [16]byte{2: byte(r & nn), 15: 0x99}; h.V != want || h.PC != 0x202 || out != api.Done || e != api.OK {
				t.Fatalf("c2%02x with %02x: %x, %d, %d", nn, r, h.V, out, e)
			}
		}
	}
	for x := range 16 {
		wantDone(t, laid(varied(t, "0000"), 0xc03c|x<<8), digits(), api.Feed{Random: 0xf5, Key: 3}, func(g *api.Game) { g.V[x] = 0x34 })
	}
}

// P18.4: timers into VX and VX into timers.
func TestTimers(t *testing.T) {
	for x := range 16 {
		for _, v := range []byte{0, 1, 0x80, 0xff} {
			g := varied(t, "0000")
			g.V[x], g.Delay, g.Sound = v, v^0x3c, v^0x5a
			wantDone(t, laid(g, 0xf007|x<<8), digits(), none, func(g *api.Game) { g.V[x] = v ^ 0x3c })
			wantDone(t, laid(g, 0xf015|x<<8), digits(), none, func(g *api.Game) { g.Delay = v })
			wantDone(t, laid(g, 0xf018|x<<8), digits(), none, func(g *api.Game) { g.Sound = v })
		}
	}
}

// P18.4: OpKey waits as long as there is none, however far below 0; else VX is the key, whatever keys are down.
func TestKey(t *testing.T) {
	for x := range 16 {
		g := laid(varied(t, "0000"), 0xf00a|x<<8)
		for _, key := range []int{-1, -2, -15, -16, -256, -65536, math.MinInt32, math.MinInt} {
			wantStuck(t, g, digits(), api.Feed{Key: key, Keys: 0xffff, Random: 7}, api.Waits)
		}
		for key := range 16 {
			wantDone(t, g, digits(), api.Feed{Key: key, Keys: ^uint16(1 << key)}, func(g *api.Game) { g.V[x] = byte(key) })
		}
		wantNoStep(t, g, digits(), api.Feed{Key: 16}, api.ErrArg)
	}
}
