package rom

import (
	"bytes"
	"fmt"
	"testing"

	"vesper/api"
	"vesper/frame"
)

// shower is a machine at power on whose program switches the chip on, makes R8 that word, and goes round; its last page is mixed.
func shower(t *testing.T, d *uint64, r8 uint16) *rig {
	t.Helper()
	image := mixed(d, 4096)
	copy(image, []byte{
		0xf8, 0x00, 0xb3, 0xf8, 0x07, 0xa3, 0xd3, // 0000: R3 is the program counter
		0xf8, byte(r8 >> 8), 0xb8, 0xf8, byte(r8), 0xa8, // 0007
		0xe2,       // 000d: X is 2
		0x34, 0x0e, // 000e: as long as EF1 is on
		0x69,                         // 0010: INP 1
		0x14, 0xfe, 0x7e, 0x30, 0x11, // 0011: INC 4, SHL, SHLC, and back
	})
	image[4095] = 0 // as the monitor makes it
	return power(t, 4096, image)
}

// P19.4: a program as simple as can be shows a page for several frames; the timers run down, and Q is high as long as the one lasts.
func TestShowsAPage(t *testing.T) {
	d := uint64(10)
	r := shower(t, &d, 0x0305)
	page := r.State().RAM[0xf00:]
	var l []api.Record
	for range 9 * frameCycles {
		l = append(l, r.tick(uint16(draw(&d, 65536))&^keyC))
	}
	frames, e := frame.Of(api.Raster{}, l)
	if e != api.OK || len(frames) != 9 {
		t.Fatalf("%d frames, %d", len(frames), e)
	}
	for k, f := range frames {
		if got, is := frame.Page(f); f.Short || !is || !bytes.Equal(got, page) {
			t.Errorf("the frame %d is not the page (%v, %v)", k, f.Short, is)
		}
		// By then the frame's routine has ended.
		if at := k*frameCycles + 210*api.LineCycles; l[at].Q != (k < 5) {
			t.Errorf("Q is %v in the frame %d", l[at].Q, k)
		}
	}
	if s := r.State(); s.CPU.R[8] != 0 || s.CPU.Q {
		t.Errorf("R8 %04x, Q %v", s.CPU.R[8], s.CPU.Q)
	}
}

// free are the registers that a program may use as it likes.
var free = [...]int{3, 4, 5, 6, 7, 10, 12, 13, 14, 15}

// freeBut is one of them that is not p.
func freeBut(d *uint64, p int) byte {
	for {
		if n := free[draw(d, len(free))]; n != p {
			return byte(n)
		}
	}
}

// instruction is one of two cycles that lies at that low byte, writes nothing, and leaves R(P) and what is the routine's.
func instruction(d *uint64, p int, at int) []byte {
	b := byte(draw(d, 256))
	switch draw(d, 12) {
	case 0:
		return []byte{0x10 | byte(draw(d, 2))<<4 | freeBut(d, p)} // INC, DEC
	case 1:
		return []byte{0x40 | freeBut(d, p)} // LDA
	case 2:
		return []byte{byte(1 + draw(d, 15))} // LDN
	case 3:
		return []byte{0x80 | byte(draw(d, 2))<<4 | byte(draw(d, 16))} // GLO, GHI
	case 4:
		return []byte{0xa0 | byte(draw(d, 2))<<4 | freeBut(d, p)} // PLO, PHI
	case 5:
		return []byte{0xe0 | byte(draw(d, 16))} // SEX
	case 6:
		return []byte{[]byte{0xf0, 0xf1, 0xf2, 0xf3, 0xf4, 0xf5, 0xf6, 0xf7, 0xfe, 0x74, 0x75, 0x76, 0x77, 0x7e, 0x68}[draw(d, 15)]}
	case 7, 8:
		return []byte{[]byte{0xf8, 0xf9, 0xfa, 0xfb, 0xfc, 0xfd, 0xff, 0x7c, 0x7d, 0x7f}[draw(d, 10)], b}
	case 9:
		return []byte{0x38, b} // SKP, and what is passed over
	case 10:
		return []byte{0x30 | byte(draw(d, 16)), byte(at + 2)} // a branch to what lies behind it, or SKP
	}
	return []byte{0x00} // IDL
}

// programAt is where a machine that is about to be interrupted has its program.
const programAt = 0x0300

// program is such instructions, and a branch to the first of them; some are IDL, or a branch on the spot, alone.
func program(d *uint64, p int) []byte {
	switch draw(d, 8) {
	case 0:
		return []byte{0x00, 0x30, 0x00}
	case 1:
		return []byte{0x30, 0x00}
	}
	var l []byte
	for len(l) < 100 {
		l = append(l, instruction(d, p, len(l))...)
	}
	return append(l, 0x30, 0x00)
}

// busy is a machine with the chip on since line 76, which shows that page; all else is anyhow.
func busy(t *testing.T, d *uint64, page int, r8 uint16, q bool) *rig {
	t.Helper()
	s := anyMachine(d, 4096, api.Fetch)
	p := free[draw(d, len(free))]
	copy(s.RAM[programAt:], program(d, p))
	c := &s.CPU
	c.P, c.IE, c.Q = byte(p), true, q
	c.R[1], c.R[8], c.R[11] = refreshAt(t), r8, uint16(page<<8|draw(d, 256))
	c.R[p] = programAt
	c.R[2] = stackFor(d, page)
	s.Latch = false
	s.Raster = api.Raster{Line: 76, Cycle: draw(d, 14), On: true}
	return from(t, s)
}

// stackFor is a place in RAM whose two bytes below are neither in the page nor in the program.
func stackFor(d *uint64, page int) uint16 {
	for {
		at := 2 + draw(d, 4095)
		if low, high := (at-2)>>8, (at-1)>>8; low != page && high != page && low != programAt>>8 && high != programAt>>8 {
			return uint16(at)
		}
	}
}

// comes lets an interrupt come; it answers the machine ahead of that.
func comes(t *testing.T, r *rig) api.Board {
	t.Helper()
	for range frameCycles {
		if s := r.State(); s.CPU.Phase == api.Interrupt {
			return s
		}
		r.tick(uint16(draw(&r.noise, 65536)))
	}
	t.Fatal("no interrupt comes")
	return api.Board{}
}

// routine is what was seen of a refresh routine.
type routine struct {
	lines  [api.Lines][]byte
	wrote  []uint16
	turns  int // how often Q changed
	cycles int
}

// goes lets the routine go to its end, from the interrupt on.
func goes(t *testing.T, r *rig) routine {
	t.Helper()
	var seen routine
	s := r.State()
	for {
		c := r.tick(uint16(draw(&r.noise, 65536)))
		if c.Code == api.S2 {
			seen.lines[s.Raster.Line] = append(seen.lines[s.Raster.Line], c.Data)
		}
		if c.Write {
			seen.wrote = append(seen.wrote, c.Address)
		}
		if c.Q != s.CPU.Q {
			seen.turns++
		}
		seen.cycles++
		if s = r.State(); s.CPU.IE {
			return seen
		}
		if seen.cycles == frameCycles {
			t.Fatal("the routine has no end")
		}
	}
}

// pageOf is what a machine reads in a page.
func pageOf(s api.Board, high int) []byte {
	at := high << 8
	switch {
	case at < len(s.RAM):
		return s.RAM[at : at+256]
	case at >= 0x8000 && at < 0x8200:
		return s.ROM[at-0x8000 : at-0x8000+256]
	}
	return bytes.Repeat([]byte{0xff}, 256)
}

// one less, if it is not 0.
func counted(b uint16) uint16 {
	if b == 0 {
		return 0
	}
	return b - 1
}

// wantRoutine: the routine has shown the page, and left all as P19.4 says.
func wantRoutine(t *testing.T, what string, ahead, behind api.Board, seen routine) {
	t.Helper()
	page := pageOf(ahead, int(ahead.CPU.R[11]>>8))
	for line, got := range seen.lines {
		var want []byte
		if line >= 80 && line <= 207 {
			row := (line - 80) / 4
			want = page[8*row : 8*row+8]
		}
		if !bytes.Equal(got, want) {
			t.Fatalf("%s: line %d: %x, wanted %x", what, line, got, want)
		}
	}
	c, was := behind.CPU, ahead.CPU
	want := was
	want.R[0], want.R[9], want.T = c.R[0], c.R[9], c.T
	want.R[8] = counted(was.R[8]>>8)<<8 | counted(was.R[8]&255)
	want.Q, want.IE = was.R[8]&255 != 0, true
	want.Op, want.Phase = c.Op, api.Fetch
	if c != want {
		t.Fatalf("%s: behind the routine %+v, wanted %+v", what, c, want)
	}
	turns := 0
	if want.Q != was.Q {
		turns = 1
	}
	if seen.turns != turns {
		t.Fatalf("%s: Q changed %d times, wanted %d", what, seen.turns, turns)
	}
	wantWritten(t, what, ahead, behind, seen)
}

// wantWritten: the routine has written into the two bytes below R2 alone.
func wantWritten(t *testing.T, what string, ahead, behind api.Board, seen routine) {
	t.Helper()
	at := ahead.CPU.R[2]
	for _, a := range seen.wrote {
		if a != at-1 && a != at-2 {
			t.Fatalf("%s: it writes at %04x, R2 being %04x", what, a, at)
		}
	}
	for a := range ahead.RAM {
		if uint16(a) != at-1 && uint16(a) != at-2 && behind.RAM[a] != ahead.RAM[a] {
			t.Fatalf("%s: RAM has changed at %04x", what, a)
		}
	}
}

// shows lets one interrupt come and go, and holds it against P19.4; it answers in which cycle of line 78 it came.
func shows(t *testing.T, what string, r *rig) int {
	t.Helper()
	ahead := comes(t, r)
	if ahead.Raster.Line != 78 {
		t.Fatalf("%s: it comes in line %d", what, ahead.Raster.Line)
	}
	seen := goes(t, r)
	wantRoutine(t, what, ahead, r.State(), seen)
	return ahead.Raster.Cycle
}

// P19.4: pages of RAM, of ROM and of nothing; programs, registers, flags and stacks of all kinds; INT comes in a fetch or behind one.
func TestRefreshOfEveryPage(t *testing.T) {
	d := uint64(11)
	cycles := map[int]int{}
	for n, page := range append(pages(), pages()...) {
		for range 4 {
			r := busy(t, &d, page, uint16(draw(&d, 65536)), draw(&d, 2) == 0)
			cycles[shows(t, fmt.Sprintf("%d, page %02x", n, page), r)]++
		}
	}
	if cycles[1] == 0 || cycles[2] == 0 || len(cycles) != 2 {
		t.Errorf("interrupts by the cycle of line 78: %v", cycles)
	}
}

// pages are the high bytes of all of RAM's, of ROM's, and of some where nothing lies.
func pages() []int {
	l := []int{0x80, 0x81, 0x10, 0x7f, 0x82, 0xff}
	for k := range 16 {
		l = append(l, k)
	}
	return l
}

// P19.4: R8's bytes at 0, 1, 2 and ff, each beside each, with Q low and high; up to the next interrupt Q stays, and so on for several frames.
func TestTimersAndTone(t *testing.T) {
	d := uint64(12)
	for _, high := range []uint16{0, 1, 2, 0xff} {
		for _, low := range []uint16{0, 1, 2, 0xff} {
			for _, q := range []bool{false, true} {
				r := busy(t, &d, 0x0f, high<<8|low, q)
				for n := range 4 {
					what := fmt.Sprintf("R8 %04x, Q %v, frame %d", high<<8|low, q, n)
					shows(t, what, r)
					wantQuiet(t, what, r)
				}
			}
		}
	}
}

// wantQuiet: Q stays as it is up to the next interrupt, and no byte is the chip's.
func wantQuiet(t *testing.T, what string, r *rig) {
	t.Helper()
	q := r.State().CPU.Q
	for range 1800 {
		if c := r.tick(0); c.Q != q || c.Code == api.S2 || c.Code == api.S3 {
			t.Fatalf("%s: between two routines: %+v", what, c)
		}
	}
}

// P19.4: what is written into the page, or where RB points, between two frames, is shown in the next one.
func TestRefreshOfAnotherPage(t *testing.T) {
	d := uint64(13)
	r := busy(t, &d, 0x0e, 0, false)
	for n := range 12 {
		shows(t, fmt.Sprintf("frame %d", n), r)
		s := r.State()
		page := []int{0x0e, 0x0f, 0x01}[n%3]
		copy(s.RAM[page<<8:], mixed(&d, 256))
		s.CPU.R[11] = uint16(page<<8 | draw(&d, 256))
		s.CPU.R[2] = stackFor(&d, page)
		r = from(t, s)
	}
}

// P19.4: the chip may come on in any cycle of line 76, and at any time ahead of it.
func TestRefreshSinceLine76(t *testing.T) {
	d := uint64(14)
	for n := range 40 {
		s := busy(t, &d, n%16, uint16(draw(&d, 65536)), false).State()
		s.Raster = api.Raster{Line: 76, Cycle: n % 14, On: true}
		if n >= 14 {
			s.Raster.Line = 75 - draw(&d, 76)
		}
		shows(t, fmt.Sprintf("the chip on in line %d, cycle %d", s.Raster.Line, s.Raster.Cycle), from(t, s))
	}
}
