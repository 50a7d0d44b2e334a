package game

import (
	"bytes"
	"testing"

	"vesper/api"
	"vesper/sprite"
)

// numbered is a game whose memory's bytes are told by their places, behind an order.
func numbered(t *testing.T, w int) api.Game {
	g := begun(t, "", func(g *api.Game) {
		for k := range g.Memory {
			g.Memory[k] = byte(1 + k%251)
		}
	})
	return laid(g, w)
}

// wantDraw: OpDraw lays these rows onto the page at VX, VY, and tells VF, as sprite.Draw does.
func wantDraw(t *testing.T, g api.Game, f api.Font, rows []byte) {
	t.Helper()
	wantDone(t, g, f, none, func(h *api.Game) {
		page, gone, e := sprite.Draw(g.Page, g.V[g.Memory[0]%16], g.V[g.Memory[1]/16], rows)
		if e != api.OK {
			t.Fatalf("sprite.Draw: %d", e)
		}
		h.Page, h.V[15] = page, 0
		if gone {
			h.V[15] = 1
		}
	})
}

// P18.4: OpDraw of every N, with its bytes in the memory, at its first and last places and across its ends.
func TestDrawOutOfMemory(t *testing.T) {
	for n := range 16 {
		g := numbered(t, 0xd120|n)
		for _, i := range []int{0x200, 0x201, 0x345, 0xea0 - n - 1, 0xea0 - n} {
			g.I = uint16(i)
			if i+n <= 0xea0 {
				wantDraw(t, g, digits(), g.Memory[i-0x200:i-0x200+n])
			}
		}
		for _, i := range []int{0, 0x1fe, 0x1ff, 0xea0 - n + 1, 0xe9f, 0xea0, 0xff0, 0x7fff, 0xfffe, 0xffff} {
			g.I = uint16(i)
			switch {
			case n == 0:
				wantDraw(t, g, digits(), nil)
			case i < 0x200 || i+n > 0xea0:
				wantStuck(t, g, digits(), none, api.Outside)
			}
		}
	}
}

// P18.4: OpDraw of no bytes, wherever I is: the page stays, VF is 0.
func TestDrawNothing(t *testing.T) {
	for _, x := range []int{1, 15} {
		g := varied(t, "0000")
		g = laid(g, 0xd000|x<<8|x<<4)
		for _, i := range edges {
			g.I, g.V[15] = i, 0x99
			wantDone(t, g, digits(), none, func(g *api.Game) { g.V[15] = 0 })
			wantDone(t, g, api.Font{}, none, func(g *api.Game) { g.V[15] = 0 })
		}
	}
}

// P18.4: OpDraw out of a font: within it, at its ends, across them; a font at the end of all addresses.
func TestDrawOutOfFont(t *testing.T) {
	f := digits()
	for n := 1; n < 16; n++ {
		g := numbered(t, 0xd120|n)
		for off := -2; off < 83; off++ {
			g.I = uint16(0x8000 + off)
			if off >= 0 && off+n <= 80 {
				wantDraw(t, g, f, f.Bytes[off:off+n])
			} else {
				wantStuck(t, g, f, none, api.Outside)
			}
		}
		top := api.Font{From: 0xfff0, Bytes: f.Bytes[:16]}
		for off := range 16 {
			g.I = uint16(0xfff0 + off)
			if off+n <= 16 {
				wantDraw(t, g, top, top.Bytes[off:off+n])
			} else {
				wantStuck(t, g, top, none, api.Outside)
			}
		}
	}
	g := numbered(t, 0xd121)
	g.I = 0xffff
	wantDraw(t, g, api.Font{From: 0xffff, Bytes: []byte{0x81}}, []byte{0x81})
	g.I = 0
	wantDraw(t, g, api.Font{From: 0, Bytes: []byte{0x81}}, []byte{0x81})
	wantStuck(t, g, api.Font{From: 1, Bytes: []byte{0x81}}, none, api.Outside)
	wantStuck(t, g, api.Font{}, none, api.Outside)
	// Behind FFFF nothing lies, also where a font has all addresses.
	all := api.Font{Bytes: bytes.Repeat([]byte{0x81}, 65536)}
	g = laid(g, 0xd122)
	g.I = 0xffff
	wantStuck(t, g, all, none, api.Outside)
	g.I = 0xfffe
	wantDraw(t, g, all, []byte{0x81, 0x81})
}

// lapped is what lies from an address on, the memory over a font that has all of 01f0 to 0eaf.
func lapped(g api.Game, f api.Font, i, n int) []byte {
	all := append(bytes.Clone(f.Bytes[:16]), g.Memory...)
	all = append(all, f.Bytes[16+3232:]...)
	return all[i-0x1f0 : i-0x1f0+n]
}

// P18.4: the memory's byte goes ahead of a font's; bytes across the ends of both are taken from each.
func TestFontOverMemory(t *testing.T) {
	f := api.Font{From: 0x1f0, Bytes: bytes.Repeat([]byte{0xee}, 3264)}
	for n := range 16 {
		draws, fills := numbered(t, 0xd120|n), numbered(t, 0xf065|n<<8)
		for _, i := range []int{0x1f0, 0x1f5, 0x1ff, 0x200, 0x201, 0x345, 0xe90, 0xe98, 0xe9f, 0xea0} {
			draws.I, fills.I = uint16(i), uint16(i)
			wantDraw(t, draws, f, lapped(draws, f, i, n))
			wantDone(t, fills, f, none, func(g *api.Game) {
				copy(g.V[:], lapped(fills, f, i, n+1))
				g.I = uint16(i + n + 1)
			})
		}
		for _, i := range []int{0x1ef, 0xeb0 - n + 1, 0xeb0} {
			draws.I = uint16(i)
			if n > 0 {
				wantStuck(t, draws, f, none, api.Outside)
			}
		}
		for _, i := range []int{0x1ef, 0xeb0 - n, 0xeb0} {
			fills.I = uint16(i)
			wantStuck(t, fills, f, none, api.Outside)
		}
	}
	// Only the memory is written, whatever the font has.
	for _, i := range []uint16{0x1f0, 0x1ff, 0xe9f, 0xea0, 0xea5} {
		g := numbered(t, 0xf133)
		g.I = i
		wantStuck(t, g, f, none, api.Outside)
		g = numbered(t, 0xf155)
		g.I = i
		wantStuck(t, g, f, none, api.Outside)
	}
}

// P18.4: OpDraw at all VX and VY: modulo the page's sides, cut off at the right and the lower edge; VX, VY are left as they stood.
func TestDrawAtAllPlaces(t *testing.T) {
	f := digits()
	for v := range 256 {
		for _, other := range []int{0, 5, 17, 31, 32, 57, 63, 64, 255} {
			g := varied(t, "d45f")
			g.I = 0x8000 + 20
			if v%2 == 0 {
				clear(g.Page)
			}
			g.V[4], g.V[5] = byte(v), byte(other)
			wantDraw(t, g, f, f.Bytes[20:35])
			g.V[4], g.V[5] = byte(other), byte(v)
			wantDraw(t, g, f, f.Bytes[20:35])
		}
	}
	edge := begun(t, "d012", func(g *api.Game) { g.V[0], g.V[1], g.I, g.V[15] = 62, 31, 0x300, 9 })
	copy(edge.Memory[0x100:], bin("ffff"))
	edge = wantDone(t, edge, f, none, func(g *api.Game) { g.Page[255], g.V[15] = 3, 0 })
	edge.PC, edge.V[0], edge.V[1] = 0x200, 62+128, 31+64
	wantDone(t, edge, f, none, func(g *api.Game) { g.Page[255], g.V[15] = 0, 1 })
}

// P18.4: VF as VX, as VY and as both gives the place as it stood ahead; then it tells whether a dot went out.
func TestDrawAtVF(t *testing.T) {
	for _, w := range []int{0xdf11, 0xd1f1, 0xdff1} {
		for vf := range 256 {
			for _, dot := range []byte{0, 0xff} {
				g := begun(t, "", func(g *api.Game) { g.V[1], g.V[15], g.I = 9, byte(vf), 0x300 })
				g = laid(g, w)
				g.Memory[0x100] = 0x80
				for k := range g.Page {
					g.Page[k] = dot
				}
				x, y := map[int]int{0xdf11: vf, 0xd1f1: 9, 0xdff1: vf}[w]%64, map[int]int{0xdf11: 9, 0xd1f1: vf, 0xdff1: vf}[w]%32
				wantDone(t, g, digits(), none, func(g *api.Game) {
					g.Page[8*y+x/8] ^= 0x80 >> (x % 8)
					g.V[15] = dot & 1
				})
			}
		}
	}
}

// P18.4: OpThree of every byte, at the first and the last places, one past them and outside; I stays.
func TestThree(t *testing.T) {
	for v := range 256 {
		for _, x := range []int{0, 8, 15} {
			for _, i := range []int{0x200, 0x201, 0x345, 0xe9c, 0xe9d} {
				g := numbered(t, 0xf033|x<<8)
				g.V[x], g.I = byte(v), uint16(i)
				wantDone(t, g, digits(), none, func(g *api.Game) {
					copy(g.Memory[i-0x200:], []byte{byte(v / 100), byte(v / 10 % 10), byte(v % 10)})
				})
			}
		}
	}
	for _, i := range []uint16{0, 0x1fd, 0x1fe, 0x1ff, 0xe9e, 0xe9f, 0xea0, 0xef0, 0x8000, 0xfffd, 0xfffe, 0xffff} {
		g := numbered(t, 0xf133)
		g.V[1], g.I = 123, i
		wantStuck(t, g, digits(), none, api.Outside)
		wantStuck(t, g, api.Font{Bytes: make([]byte, 65536)}, none, api.Outside)
	}
}

// P18.4: OpStore of every X, at the first and the last places, one past them and outside.
func TestStore(t *testing.T) {
	for x := range 16 {
		g := numbered(t, 0xf055|x<<8)
		for k := range g.V {
			g.V[k] = byte(0xa0 + k)
		}
		for _, i := range []int{0x200, 0x201, 0x345, 0xea0 - x - 2, 0xea0 - x - 1} {
			g.I = uint16(i)
			wantDone(t, g, digits(), none, func(h *api.Game) {
				copy(h.Memory[i-0x200:], g.V[:x+1])
				h.I = uint16(i + x + 1)
			})
		}
		for _, i := range []int{0, 0x1ff - x, 0x1ff, 0xea0 - x, 0xea0, 0xef0, 0x8000, 0xffff - x, 0xffff} {
			g.I = uint16(i)
			wantStuck(t, g, digits(), none, api.Outside)
			wantStuck(t, g, api.Font{Bytes: make([]byte, 65536)}, none, api.Outside)
		}
	}
}

// P18.4: OpFill of every X, out of the memory and a font, at their first and last places, one past them and outside; I goes on from FFFF to 0.
func TestFill(t *testing.T) {
	f := api.Font{From: 0xfff0, Bytes: []byte("ABCDEFGHIJKLMNOP")}
	for x := range 16 {
		g := numbered(t, 0xf065|x<<8)
		for k := range g.V {
			g.V[k] = byte(0xa0 + k)
		}
		for _, i := range []int{0x200, 0x201, 0x345, 0xea0 - x - 2, 0xea0 - x - 1} {
			g.I = uint16(i)
			wantDone(t, g, f, none, func(g *api.Game) {
				copy(g.V[:x+1], g.Memory[i-0x200:])
				g.I = uint16(i + x + 1)
			})
		}
		g.I = uint16(0xffff - x)
		wantDone(t, g, f, none, func(g *api.Game) {
			copy(g.V[:x+1], f.Bytes[15-x:])
			g.I = 0
		})
		for _, i := range []int{0, 0x1ff - x, 0x1ff, 0xea0 - x, 0xea0, 0xef0, 0x8000, 0xffef, 0x10000 - x} {
			g.I = uint16(i)
			if i <= 0xffff {
				wantStuck(t, g, f, none, api.Outside)
			}
		}
	}
}

// P18.4: an order that is written over by itself is done as it stood, and the next one is the one that was laid there.
func TestOverTheOrder(t *testing.T) {
	store := begun(t, "f355 0000", func(g *api.Game) { g.I, g.V[0], g.V[1], g.V[2], g.V[3] = 0x200, 0x12, 0x34, 0x6a, 0x77 })
	store = wantDone(t, store, digits(), none, func(g *api.Game) {
		copy(g.Memory, bin("12346a77"))
		g.I = 0x204
	})
	wantDone(t, store, digits(), none, func(g *api.Game) { g.V[10] = 0x77 })
	store.PC = 0x200
	wantDone(t, store, digits(), none, func(g *api.Game) { g.PC = 0x234 })

	three := begun(t, "f133 0000", func(g *api.Game) { g.I, g.V[1] = 0x1ff, 199 })
	wantStuck(t, three, digits(), none, api.Outside)
	three.I = 0x200
	three = wantDone(t, three, digits(), none, func(g *api.Game) { copy(g.Memory, bin("010909")) })
	wantStuck(t, three, digits(), none, api.Machine)

	last := begun(t, "", func(g *api.Game) { g.PC, g.I, g.V[0], g.V[1] = 0xe9e, 0xe9e, 0x60, 0x05 })
	last = wantDone(t, laid(last, 0xf155), digits(), none, func(g *api.Game) {
		copy(g.Memory[3230:], bin("6005"))
		g.I = 0xea0
	})
	wantStuck(t, last, digits(), none, api.Outside)
}
