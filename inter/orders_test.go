package inter

import (
	"bytes"
	"strings"
	"testing"

	"vesper/api"
	"vesper/ops"
)

// words are all words of each kind of orders.
func words() map[api.Op][]uint16 {
	all := map[api.Op][]uint16{}
	for w := range 65536 {
		if o, is := ops.Decode(uint16(w)); is {
			all[o.Op] = append(all[o.Op], uint16(w))
		}
	}
	return all
}

// kindsDone are the kinds whose orders are done whatever the keys are.
func kindsDone() []api.Op {
	var l []api.Op
	for op := api.OpClear; op <= api.OpFill; op++ {
		if op != api.OpKey {
			l = append(l, op)
		}
	}
	return l
}

// anyByte is 0, 255, something about the middle or an edge, or any one.
func anyByte(d *uint64) byte {
	edges := []byte{0, 1, 2, 9, 10, 15, 16, 31, 32, 63, 64, 99, 100, 127, 128, 199, 200, 254, 255}
	if draw(d, 2) == 0 {
		return edges[draw(d, len(edges))]
	}
	return byte(draw(d, 256))
}

// anyWord is one about the edges of what lies anywhere, or any one.
func anyWord(d *uint64) uint16 {
	edges := []uint16{0, 1, 0xff, 0x100, 0x1ff, 0x200, 0xe9f, 0xea0, 0xeff, 0xf00, 0xfff, 0x1000, 0x7fff, 0x8000, 0xff00, 0xfffe, 0xffff}
	if draw(d, 2) == 0 {
		return edges[draw(d, len(edges))]
	}
	return uint16(draw(d, 65536))
}

// anyPlace is an address from which on so many bytes lie within from and to.
func anyPlace(d *uint64, size, from, to int) uint16 {
	last := to - size
	switch draw(d, 4) {
	case 0:
		return uint16(from)
	case 1:
		return uint16(last)
	}
	return uint16(from + draw(d, last-from+1))
}

// anyPage is empty, full, or mixed.
func anyPage(d *uint64) []byte {
	switch draw(d, 4) {
	case 0:
		return make([]byte, api.PageSize)
	case 1:
		return bytes.Repeat([]byte{0xff}, api.PageSize)
	}
	return mixed(d, api.PageSize)
}

// reach is how many bytes from I on an order reads or writes, and whether the font may have them.
func reach(o api.Order) (int, bool) {
	switch o.Op {
	case api.OpDraw:
		return int(o.N), true
	case api.OpThree:
		return 3, false
	case api.OpStore:
		return int(o.X) + 1, false
	case api.OpFill:
		return int(o.X) + 1, true
	}
	return 0, false
}

// laid is a game with a word at PC.
func laid(g api.Game, w uint16) api.Game {
	g.Memory[g.PC-api.ProgramAt], g.Memory[g.PC-api.ProgramAt+1] = byte(w>>8), byte(w)
	return g
}

// anyGame is a game of all kinds, in which the order of a word at PC is done.
func anyGame(d *uint64, w uint16) api.Game {
	o, _ := ops.Decode(w)
	g := api.Game{
		I: anyWord(d), PC: anyPlace(d, 2, api.ProgramAt, api.ProgramAt+api.ProgramSize), Delay: anyByte(d), Sound: anyByte(d),
		Page: anyPage(d), Memory: mixed(d, api.ProgramSize),
	}
	for k := range g.V {
		g.V[k] = anyByte(d)
	}
	if draw(d, 3) == 0 {
		g.V[o.Y] = g.V[o.X]
	}
	least, most := 0, api.MaxCalls
	switch o.Op {
	case api.OpReturn:
		least = 1
	case api.OpCall:
		most--
	}
	for range least + draw(d, most-least+1) {
		g.Stack = append(g.Stack, anyWord(d))
	}
	if n, font := reach(o); font && draw(d, 3) == 0 {
		from := int(theKit.font.From)
		g.I = anyPlace(d, n, from, from+len(theKit.font.Bytes))
	} else if n > 0 {
		g.I = anyPlace(d, n, api.ProgramAt, api.ProgramAt+api.ProgramSize)
	}
	return laid(g, w)
}

// shake changes all that is the interpreter's own business at a beat, and that it should not lean on.
func (m *machine) shake(d *uint64) {
	m.t.Helper()
	s := m.State()
	c := &s.CPU
	for _, n := range []int{0, 3, 6, 7, 9, 13, 14, 15} {
		c.R[n] = uint16(draw(d, 65536))
	}
	c.R[11] = c.R[11]&0xff00 | uint16(draw(d, 256))
	c.R[12] = c.R[12]&0xff00 | uint16(draw(d, 256))
	c.D, c.DF, c.X, c.T = byte(draw(d, 256)), draw(d, 2) == 0, byte(draw(d, 16)), byte(draw(d, 256))
	copy(s.RAM[api.ProgramAt+api.ProgramSize:], mixed(d, api.StackAt-2*api.MaxCalls+1-api.ProgramAt-api.ProgramSize))
	copy(s.RAM[api.StackAt+1:], mixed(d, api.VarsAt-api.StackAt-1))
	s.RAM[c.R[2]] = byte(draw(d, 256))
	m.keep(s)
}

// P20.3, P20.4: every kind of order, from machines at all places of a frame, with all that a game has mixed, and all that is nobody's business.
func TestEachOrder(t *testing.T) {
	all, kinds := words(), kindsDone()
	abreast(t, len(kinds), func(t *testing.T, n int) {
		d := uint64(100 + n)
		m := begun(t, []byte{0x12, 0x00})
		l, most, interrupted := all[kinds[n]], 0, 0
		for range 300 {
			m.keys = uint16(draw(&d, 65536))
			m.lay(anyGame(&d, l[draw(&d, len(l))]))
			m.shake(&d)
			p := m.order()
			most = max(most, p.own)
			interrupted += p.ticks
		}
		if interrupted == 0 {
			t.Error("no interrupt came")
		}
		if o := (api.Order{Op: kinds[n]}); most > Bound(o)-rest {
			t.Errorf("%d cycles of its own, the bound is %d", most, Bound(o))
		}
	})
}

// P20.3: every kind of order, interrupted in each of its cycles.
func TestInterruptedOrders(t *testing.T) {
	all, kinds := words(), kindsDone()
	abreast(t, len(kinds), func(t *testing.T, n int) {
		d := uint64(200 + n)
		m := begun(t, []byte{0x12, 0x00})
		l, step := all[kinds[n]], 1
		if op := kinds[n]; op == api.OpClear || op == api.OpDraw {
			step = 13 // of the 1820 cycles that the interpreter has of a frame
		}
		last := min(Bound(api.Order{Op: kinds[n]})-rest+4, 1820)
		for ahead := 0; ahead < last; ahead += step {
			m.keys = uint16(draw(&d, 65536))
			m.lay(anyGame(&d, l[draw(&d, len(l))]))
			m.interruptIn(ahead)
			m.order()
		}
	})
}

// The orders whose sums wrap round, with a carry and without, with VF in each place, with VX as VY.
func TestSums(t *testing.T) {
	edges := []byte{0, 1, 2, 127, 128, 129, 254, 255}
	abreast(t, 6, func(t *testing.T, n int) {
		d := uint64(300 + n)
		m := begun(t, []byte{0x12, 0x00})
		for _, places := range []uint16{0x0120, 0x0ab0, 0x0f20, 0x01f0, 0x0ff0, 0x0330} {
			for _, a := range edges {
				for _, b := range edges {
					w := []uint16{0x8004, 0x8005, 0x8001, 0x8002, 0x8000, 0x7000}[n] | places
					if n == 5 {
						w = w&0xff00 | uint16(b)
					}
					g := anyGame(&d, w)
					g.V[places>>4&15], g.V[places>>8] = b, a
					m.lay(g)
					m.order()
				}
			}
		}
	})
}

// Each pair of bytes comes to be what it must: of a sum, a difference, and the bits.
func TestManySums(t *testing.T) {
	abreast(t, 8, func(t *testing.T, n int) {
		d := uint64(350 + n)
		m := begun(t, []byte{0x12, 0x00})
		for range 500 {
			w := []uint16{0x8124, 0x8125, 0x8121, 0x8122}[n%4]
			g := anyGame(&d, w)
			g.V[1], g.V[2] = byte(draw(&d, 256)), byte(draw(&d, 256))
			m.lay(g)
			m.order()
		}
	})
}

// I goes from FFFF to 0, and PC by V0 from FFF on beyond it.
func TestAddresses(t *testing.T) {
	d := uint64(400)
	m := begun(t, []byte{0x12, 0x00})
	for _, i := range []uint16{0, 1, 0xff, 0x100, 0x0fff, 0x7f80, 0xff00, 0xff01, 0xfffe, 0xffff} {
		for _, v := range []byte{0, 1, 2, 127, 128, 254, 255} {
			for _, x := range []uint16{0, 7, 15} {
				g := anyGame(&d, 0xf01e|x<<8)
				g.I, g.V[x] = i, v
				m.lay(g)
				m.order()
			}
			g := anyGame(&d, 0xb000|i&0xfff)
			g.V[0] = v
			m.lay(g)
			m.order()
		}
	}
	for at := 0; at < 0x1000; at += 0x55 {
		for _, kind := range []uint16{0x1000, 0x2000, 0xa000} {
			m.lay(anyGame(&d, kind|uint16(at)))
			m.order()
		}
	}
}

// All kinds at the memory's last place: PC comes to 0EA0, or 0EA2 by a skip.
func TestLastPlace(t *testing.T) {
	all := words()
	m := begun(t, []byte{0x12, 0x00})
	d := uint64(500)
	for _, op := range kindsDone() {
		for range 6 {
			l := all[op]
			g := anyGame(&d, l[draw(&d, len(l))])
			w := uint16(g.Memory[g.PC-0x200])<<8 | uint16(g.Memory[g.PC-0x1ff])
			g.PC = 0xe9e
			m.lay(laid(g, w))
			m.order()
		}
	}
}

// Skips both ways, with VX as VY and VF among them.
func TestSkips(t *testing.T) {
	d := uint64(600)
	m := begun(t, []byte{0x12, 0x00})
	for _, kind := range []uint16{0x3000, 0x4000, 0x5000, 0x9000} {
		for _, places := range []uint16{0x0120, 0x0f00, 0x00f0, 0x0ff0, 0x0780} {
			for _, a := range []byte{0, 1, 0x80, 0xff} {
				for _, b := range []byte{a, a ^ 1, a ^ 0x80, a + 1, ^a} {
					w := kind | places
					if kind < 0x5000 {
						w = w&0xff00 | uint16(b)
					}
					g := anyGame(&d, w)
					g.V[places>>4&15], g.V[places>>8] = b, a
					m.lay(g)
					m.order()
				}
			}
		}
	}
}

// Calls to each depth, and their returns, to all kinds of addresses.
func TestCalls(t *testing.T) {
	d := uint64(700)
	m := begun(t, []byte{0x12, 0x00})
	for depth := range api.MaxCalls {
		for range 4 {
			g := anyGame(&d, 0x2abc)
			g.Stack = nil
			for range depth {
				g.Stack = append(g.Stack, anyWord(&d))
			}
			ahead := g
			m.lay(g)
			m.order()
			g = m.game()
			if len(g.Stack) != depth+1 || g.Stack[depth] != ahead.PC+2 || g.PC != 0xabc {
				t.Fatalf("depth %d: PC %04x, stack %04x", depth, g.PC, g.Stack)
			}
			m.lay(laid(g, 0x00ee))
			m.order()
			if g = m.game(); len(g.Stack) != depth || g.PC != ahead.PC+2 {
				t.Fatalf("depth %d, behind the return: PC %04x, stack %04x", depth, g.PC, g.Stack)
			}
		}
	}
	// A program that calls itself twelve times, and returns as often.
	m = begun(t, []byte{0x71, 0x01, 0x41, 0x0d, 0x12, 0x0a, 0x22, 0x00, 0x00, 0xee, 0x00, 0xee})
	deepest := 0
	for range 3*api.MaxCalls + api.MaxCalls {
		m.order()
		deepest = max(deepest, len(m.game().Stack))
	}
	if deepest != api.MaxCalls {
		t.Errorf("%d calls at most", deepest)
	}
}

// OpThree of every byte, at the memory's ends, and of VF; over the order itself.
func TestThree(t *testing.T) {
	abreast(t, 4, func(t *testing.T, n int) {
		d := uint64(800 + n)
		m := begun(t, []byte{0x12, 0x00})
		for v := n; v < 256; v += 4 {
			for _, i := range []uint16{0x200, 0x345, 0xe9d} {
				x := uint16(draw(&d, 16))
				g := anyGame(&d, 0xf033|x<<8)
				g.V[x], g.I = byte(v), i
				m.lay(g)
				m.order()
				if h := m.game(); int(h.Memory[i-0x200])*100+int(h.Memory[i-0x1ff])*10+int(h.Memory[i-0x1fe]) != v || h.I != i {
					t.Fatalf("%d at %04x: % x, I %04x", v, i, h.Memory[i-0x200:i-0x1fd], h.I)
				}
			}
		}
		g := anyGame(&d, 0xf733)
		g.I = g.PC - min(g.PC-0x200, 2)
		if g.I > 0xe9d {
			g.I = 0xe9d
		}
		m.lay(g)
		m.order()
	})
}

// OpStore and OpFill of every X, at the memory's ends, and over the order itself.
func TestStoreAndFill(t *testing.T) {
	abreast(t, 16, func(t *testing.T, x int) {
		d := uint64(900 + x)
		m := begun(t, []byte{0x12, 0x00})
		for _, kind := range []uint16{0xf055, 0xf065} {
			for _, i := range []int{0x200, 0x201, 0x2f8, 0x345, 0xea0 - x - 2, 0xea0 - x - 1} {
				g := anyGame(&d, kind|uint16(x)<<8)
				g.I = uint16(i)
				m.lay(g)
				m.order()
				if h := m.game(); int(h.I) != i+x+1 || !bytes.Equal(h.V[:x+1], h.Memory[i-0x200:i-0x200+x+1]) {
					t.Fatalf("%04x of %d at %04x: V %x, I %04x", kind, x, i, h.V, h.I)
				}
			}
			for off := range 16 {
				g := anyGame(&d, kind|uint16(x)<<8)
				g.PC = 0x400
				g.I = uint16(0x402 - off)
				m.lay(laid(g, kind|uint16(x)<<8))
				m.order()
			}
		}
		// What is filled from ROM: the digits' pictures, from their first byte to their last one.
		size := len(m.font.Bytes)
		for _, off := range []int{0, 1, 5, size - x - 2, size - x - 1} {
			g := anyGame(&d, 0xf065|uint16(x)<<8)
			g.I = m.font.From + uint16(off)
			m.lay(g)
			m.order()
		}
	})
}

// OpDigit of every byte leads to the picture of its low four bits.
func TestDigits(t *testing.T) {
	d := uint64(1000)
	m := begun(t, []byte{0x12, 0x00})
	for v := range 256 {
		x := uint16(draw(&d, 16))
		g := anyGame(&d, 0xf029|x<<8)
		g.V[x] = byte(v)
		m.lay(g)
		m.order()
		if h := m.game(); h.I != m.font.At[v%16] {
			t.Errorf("%02x: I %04x, wanted %04x", v, h.I, m.font.At[v%16])
		}
	}
}

// OpRandom: all lots come, and bits outside the mask are 0; what comes next hangs on more than the one ahead.
func TestLots(t *testing.T) {
	for _, mask := range []byte{0xff, 0x0f, 0x80, 0x01, 0x00} {
		m := begun(t, []byte{0xc3, mask, 0x12, 0x00})
		lots, pairs, last := map[byte]int{}, map[[2]byte]int{}, byte(0)
		for range 6000 {
			m.beat(6000)
			if s := m.State(); s.CPU.R[5] == 0x202 {
				v := s.RAM[api.VarsAt+3]
				lots[v]++
				pairs[[2]byte{last, v}]++
				last = v
			}
		}
		if mask == 0xff && len(pairs) < 2900 {
			t.Errorf("of 3000 lots %d pairs", len(pairs))
		}
		want := 1
		for k := range 8 {
			if mask>>k&1 != 0 {
				want *= 2
			}
		}
		for v, n := range lots {
			if v&^mask != 0 || n > 5*3000/want {
				t.Errorf("of the mask %02x comes %02x, %d times", mask, v, n)
			}
		}
		if len(lots) != want {
			t.Errorf("of the mask %02x come %d lots", mask, len(lots))
		}
	}
}

// T3: orders of all kinds, one behind the other, each on what the ones ahead have left.
func TestLongPlay(t *testing.T) {
	all, kinds := words(), append(kindsDone(), api.OpDraw, api.OpCall, api.OpReturn, api.OpStore, api.OpPoint)
	abreast(t, 16, func(t *testing.T, n int) {
		d := uint64(1100 + n)
		m := begun(t, mixed(&d, api.ProgramSize-n))
		done := 0
		for done < 500 {
			if draw(&d, 8) == 0 {
				m.keys = uint16(draw(&d, 65536))
			}
			l := all[kinds[draw(&d, len(kinds))]]
			g := m.game()
			if g.PC < 0x200 || g.PC > 0xe9e {
				g.PC = anyPlace(&d, 2, 0x200, 0xea0)
			}
			g = laid(g, l[draw(&d, len(l))])
			if !m.isDone(g) {
				continue
			}
			m.lay(g)
			m.order()
			done++
		}
	})
}

// A program that is left to itself: digits run over the page, are counted, and split.
func TestProgram(t *testing.T) {
	b, e, line := ops.Program(strings.ReplaceAll(`
		up:
		call to show
		add v2 01
		random v0 3f
		random v1 1f
		skip-is v2 10
		jump to up
		clear
		set v2 00
		jump to up
		show:
		digit v2
		draw v0 v1 5
		skip-is vf 01
		return
		point to number
		three v2
		point to number
		fill v4
		return
		number:
		data 00 00 00 00 00
	`, "\t", " "))
	if e != api.OK {
		t.Fatalf("the line %d: %d", line, e)
	}
	m := begun(t, b)
	for range 2500 {
		m.order()
	}
}

// P20.3: the chapter's orders with every X and Y, as far as they have them.
func TestEachPlace(t *testing.T) {
	kinds := []uint16{0x3000, 0x4000, 0x5000, 0x6000, 0x7000, 0x8000, 0x8001, 0x8002, 0x8004, 0x8005, 0x9000, 0xc000, 0xd003, 0xe09e, 0xe0a1, 0xf007, 0xf015, 0xf018, 0xf01e, 0xf029, 0xf033, 0xf055, 0xf065}
	abreast(t, len(kinds), func(t *testing.T, n int) {
		d := uint64(1200 + n)
		m := begun(t, []byte{0x12, 0x00})
		for x := range uint16(16) {
			w := kinds[n] | x<<8
			m.keys = uint16(draw(&d, 65536))
			if w>>12 != 5 && w>>12 != 8 && w>>12 != 9 && w>>12 != 0xd {
				m.lay(anyGame(&d, w))
				m.order()
				continue
			}
			for y := range uint16(16) {
				m.lay(anyGame(&d, w|y<<4))
				m.order()
			}
		}
	})
}
