package rom

import (
	"bytes"
	"testing"

	"vesper/api"
	"vesper/board"
	"vesper/sprite"
)

const (
	frameCycles = api.LineCycles * api.Lines
	twoFrames   = 2 * frameCycles // as long as a key must be down, and up, to count
	settled     = 4000            // within which the page has what a key has done
	firstCycles = 2000            // within which a machine has begun
	keyC        = 1 << 12
	lastPages   = 2 * api.PageSize
)

// draw is a number below n, of a fixed row of numbers.
func draw(d *uint64, n int) int {
	*d = *d*6364136223846793005 + 1442695040888963407
	return int(*d >> 33 % uint64(n))
}

// mixed are so many bytes of all kinds.
func mixed(d *uint64, n int) []byte {
	b := make([]byte, n)
	for k := range b {
		b[k] = byte(draw(d, 256))
	}
	return b
}

// sizes are all sizes of RAM.
func sizes() []int {
	var l []int
	for n := api.RAMStep; n <= api.MaxRAM; n += api.RAMStep {
		l = append(l, n)
	}
	return l
}

// rig is a machine with the monitor, played by quiet scripts in which all that may change does.
type rig struct {
	*board.Board
	noise uint64
	q     bool // Q was high in a cycle
}

// power is one at power on.
func power(t *testing.T, ram int, image []byte) *rig {
	t.Helper()
	b, e := board.New(ram, Bytes(), image)
	if e != api.OK {
		t.Fatalf("board.New of %d bytes: %d", ram, e)
	}
	return &rig{Board: b, noise: uint64(ram + len(image))}
}

// from is one that stands so.
func from(t *testing.T, s api.Board) *rig {
	t.Helper()
	b, e := board.From(s)
	if e != api.OK {
		t.Fatalf("board.From: %d", e)
	}
	return &rig{Board: b, noise: uint64(s.Raster.Line*16 + s.Raster.Cycle)}
}

// copied is another one that goes on alike.
func (r *rig) copied() *rig { return &rig{Board: r.Clone(), noise: r.noise} }

// tick is a quiet cycle with these keys down.
func (r *rig) tick(keys uint16) api.Record {
	n := draw(&r.noise, 1024)
	c := r.Step(api.Span{Cycles: 1, Keys: keys, Bus: byte(n), Tape: n&256 != 0, Flag: n&512 != 0})
	r.q = r.q || c.Q
	return c
}

// hold is so many of these.
func (r *rig) hold(cycles int, keys uint16) {
	for range cycles {
		r.tick(keys)
	}
}

// reset is a cycle of Reset.
func (r *rig) reset() { r.Step(api.Span{Cycles: 1, Clear: true, Keys: 0xffff}) }

// The states of the twin.
type twinState int

const (
	wantsDigits twinState = iota
	wantsCommand
	wantsFirst
	wantsSecond
	showsBytes
)

// twin is what the monitor has come to, by the chapter's table.
type twin struct {
	a      uint16
	state  twinState
	digits int
	kept   byte
	ram    []byte
	rom    []byte
	soiled bool // a byte was written into the last two pages
}

// newTwin is that of a machine whose RAM has such an image.
func newTwin(ram int, image []byte) *twin {
	w := &twin{ram: make([]byte, ram), rom: Bytes()}
	copy(w.ram, image)
	return w
}

// begun is the twin behind a Reset.
func (w *twin) begun() *twin {
	return &twin{ram: w.ram, rom: w.rom, soiled: w.soiled}
}

// count is what a key does that counts.
func (w *twin) count(k int) {
	switch w.state {
	case wantsDigits:
		w.a = w.a<<4 + uint16(k)
		if w.digits++; w.digits == 4 {
			w.state = wantsCommand
		}
	case wantsCommand:
		if k == 0 {
			w.state = wantsFirst
		} else if k == 10 {
			w.state = showsBytes
		}
	case wantsFirst:
		w.kept, w.state = byte(k), wantsSecond
	case wantsSecond:
		w.write(16*w.kept + byte(k))
		w.a++
		w.state = wantsFirst
	case showsBytes:
		w.a++
	}
}

// write writes a byte to A, if RAM lies there.
func (w *twin) write(b byte) {
	if int(w.a) >= len(w.ram) {
		return
	}
	w.ram[w.a] = b
	w.soiled = w.soiled || w.hidden()
}

// hidden: A lies in the last two pages.
func (w *twin) hidden() bool {
	return int(w.a) < len(w.ram) && int(w.a) >= len(w.ram)-lastPages
}

// byteAtA is what the machine reads there.
func (w *twin) byteAtA() byte {
	switch a := int(w.a); {
	case a < len(w.ram):
		return w.ram[a]
	case a >= api.ROMAt && a < api.ROMAt+api.ROMSize:
		return w.rom[a-api.ROMAt]
	}
	return 0xff
}

// page is what must be shown.
func (w *twin) page() []byte {
	p, b := make([]byte, api.PageSize), w.byteAtA()
	for column, digit := range map[int]byte{
		0: byte(w.a >> 12), 1: byte(w.a >> 8 & 15), 2: byte(w.a >> 4 & 15), 3: byte(w.a & 15),
		6: b >> 4, 7: b & 15,
	} {
		for row, bits := range sprite.Digit(digit) {
			p[8*row+column] = bits
		}
	}
	return p
}

// wantShown: the page and RAM are what the twin says.
func wantShown(t *testing.T, what string, r *rig, w *twin) {
	t.Helper()
	s := r.State()
	n := len(s.RAM)
	if !bytes.Equal(s.RAM[:n-lastPages], w.ram[:n-lastPages]) {
		t.Fatalf("%s: RAM is not as the table says", what)
	}
	if w.soiled {
		return
	}
	got, want := s.RAM[n-api.PageSize:], w.page()
	for k := range want {
		if w.hidden() && k < 40 && k%8 >= 6 {
			continue // which byte is shown there is not said
		}
		if got[k] != want[k] {
			t.Fatalf("%s: A %04x: the page has %02x at %02x, wanted %02x", what, w.a, got[k], k, want[k])
		}
	}
}

// typed presses keys, each as shortly as it may be, one right behind the other; what the one has done must be shown while the next one is down already.
func typed(t *testing.T, what string, r *rig, w *twin, keys ...int) {
	t.Helper()
	for _, k := range keys {
		r.hold(settled, 1<<k)
		wantShown(t, what, r, w)
		r.hold(twoFrames-settled, 1<<k)
		r.hold(twoFrames, 0)
		w.count(k)
	}
	r.hold(settled, 0)
	wantShown(t, what, r, w)
}

// called is a machine whose monitor was called by C, let go behind so many cycles.
func called(t *testing.T, ram int, image []byte, cycles int) *rig {
	t.Helper()
	r := power(t, ram, image)
	r.hold(cycles, keyC)
	return r
}

// The chapter's examples, row by row.
func TestExamples(t *testing.T) {
	d := uint64(1)
	image := mixed(&d, 4096)
	r := power(t, 4096, image)
	begins(t, "the first row", r)
	s := r.State()
	if s.CPU.R[11]>>8 != 0x0f || s.CPU.R[2] != 0x0ecf || s.RAM[0xfff] != 0 {
		t.Errorf("RB %04x, R2 %04x, %02x at 0fff", s.CPU.R[11], s.CPU.R[2], s.RAM[0xfff])
	}

	r, w := called(t, 4096, image, 3000), newTwin(4096, image)
	r.hold(twoFrames, 0)
	typed(t, "the second row", r, w, 0, 2, 3, 4, 0, 10, 11, 0, 15)
	if s := r.State(); s.RAM[0x234] != 0xab || s.RAM[0x235] != 0x0f || w.a != 0x236 {
		t.Errorf("%02x at 0234, %02x at 0235, A %04x", s.RAM[0x234], s.RAM[0x235], w.a)
	}

	r.reset()
	r.hold(3000, keyC)
	r.hold(twoFrames, 0)
	w = w.begun()
	typed(t, "the third row", r, w, 0, 2, 3, 4, 10, 5)
	if w.a != 0x235 || w.byteAtA() != 0x0f {
		t.Errorf("A %04x, %02x", w.a, w.byteAtA())
	}
	if r.q {
		t.Error("Q was high")
	}
}

// The tenth of DOC.md's examples of the whole: keys that are down and up for longer.
func TestExampleOfTheWhole(t *testing.T) {
	r, w := called(t, 4096, nil, 3000), newTwin(4096, nil)
	r.hold(30000, 0)
	for _, k := range []int{0, 2, 3, 4, 0, 10, 11} {
		r.hold(8000, 1<<k)
		r.hold(14000, 0)
		w.count(k)
		wantShown(t, "keys", r, w)
	}
	if s := r.State(); s.RAM[0x234] != 0xab {
		t.Errorf("%02x at 0234", s.RAM[0x234])
	}
}
