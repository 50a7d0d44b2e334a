package inter

import (
	"bytes"
	"testing"

	"vesper/api"
)

// OpDraw at every column and row, modulo the page's sides, at its edges and across them.
func TestDrawEverywhere(t *testing.T) {
	abreast(t, 16, func(t *testing.T, n int) {
		d := uint64(1300 + n)
		m := begun(t, []byte{0x12, 0x00})
		for x := n; x < 256; x += 16 {
			for _, y := range []int{0, 1, 15, 27, 30, 31, 32, 63, 200, 255} {
				g := anyGame(&d, 0xd340|uint16(1+draw(&d, 7)))
				g.V[3], g.V[4] = byte(x), byte(y)
				m.lay(g)
				m.order()
			}
		}
		for y := n; y < 256; y += 16 {
			for _, x := range []int{0, 7, 8, 56, 57, 63, 64, 255} {
				g := anyGame(&d, 0xd345)
				g.V[3], g.V[4] = byte(x), byte(y)
				m.lay(g)
				m.order()
			}
		}
	})
}

// OpDraw of 0 to 15 rows, all across each edge, out of the memory and out of the font.
func TestDrawRows(t *testing.T) {
	abreast(t, 16, func(t *testing.T, rows int) {
		d := uint64(1400 + rows)
		m := begun(t, []byte{0x12, 0x00})
		size := len(m.font.Bytes)
		for _, at := range [][2]byte{{0, 0}, {5, 3}, {56, 10}, {57, 12}, {63, 17}, {63, 31}, {0, 31}, {60, 29}, {13, 32 - byte(rows)}, {13, 33 - byte(rows)}} {
			for _, i := range []uint16{0x200, 0x777, uint16(0xea0 - rows), m.font.From, m.font.From + uint16(size-rows)} {
				g := anyGame(&d, 0xd780|uint16(rows))
				g.V[7], g.V[8], g.I = at[0], at[1], i
				m.lay(g)
				m.order()
			}
		}
	})
}

// VF as VX, as VY, as both: the place is as it stood ahead; VF tells whether a dot went out, and only that.
func TestDrawAtVF(t *testing.T) {
	abreast(t, 3, func(t *testing.T, n int) {
		d := uint64(1500 + n)
		m := begun(t, []byte{0x12, 0x00})
		for vf := range 256 {
			g := anyGame(&d, []uint16{0xdf11, 0xd1f1, 0xdff1}[n])
			g.V[1], g.V[15], g.I = 9, byte(vf), 0x300
			if g.PC >= 0x2ff && g.PC <= 0x300 {
				g.PC = 0x200
				g = laid(g, []uint16{0xdf11, 0xd1f1, 0xdff1}[n])
			}
			g.Memory[0x100] = 0x80
			g.Page = bytes.Repeat([]byte{byte(0xff * (vf / 2 % 2))}, api.PageSize)
			m.lay(g)
			m.order()
			if h := m.game(); int(h.V[15]) != vf/2%2 {
				t.Fatalf("VF %02x: %02x", vf, h.V[15])
			}
		}
	})
}

// One dot that goes out, at each place of a row, is told, in its left half and in its right one; a dot beside it is not.
func TestDrawOneDot(t *testing.T) {
	abreast(t, 8, func(t *testing.T, shift int) {
		d := uint64(1600 + shift)
		m := begun(t, []byte{0x12, 0x00})
		for dot := range 24 {
			g := anyGame(&d, 0xd121)
			g.PC, g.I = 0x200, 0x300
			g = laid(g, 0xd121)
			g.V[1], g.V[2] = byte(16+shift), 7
			g.Page = make([]byte, api.PageSize)
			g.Page[7*8+2+dot/8] = 0x80 >> (dot % 8)
			g.Memory[0x100] = 0xff
			m.lay(g)
			m.order()
			want := byte(0)
			if dot >= shift && dot < shift+8 {
				want = 1
			}
			if h := m.game(); h.V[15] != want {
				t.Errorf("shifted by %d, a dot at %d: VF %d", shift, dot, h.V[15])
			}
		}
	})
}

// OpDraw twice leaves the page as it was; I stays.
func TestDrawTwice(t *testing.T) {
	d := uint64(1700)
	m := begun(t, []byte{0x12, 0x00})
	for range 40 {
		g := anyGame(&d, 0xd56f)
		g.PC, g.I = 0x200, 0x300
		copy(g.Memory, []byte{0xd5, 0x6f, 0xd5, 0x6f})
		m.lay(g)
		m.order()
		m.order()
		if h := m.game(); !bytes.Equal(h.Page, g.Page) || h.I != 0x300 || h.PC != 0x204 {
			t.Fatalf("I %04x, PC %04x, or the page is another one", h.I, h.PC)
		}
	}
}

// OpClear wipes all of the page, and nothing else.
func TestClear(t *testing.T) {
	d := uint64(1800)
	m := begun(t, []byte{0x12, 0x00})
	for range 30 {
		g := anyGame(&d, 0x00e0)
		g.Page = bytes.Repeat([]byte{0xff}, api.PageSize)
		m.lay(g)
		m.order()
		if h := m.game(); !bytes.Equal(h.Page, make([]byte, api.PageSize)) {
			t.Fatalf("the page: %x", h.Page)
		}
	}
}
