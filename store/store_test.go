package store

import (
	"bytes"
	"fmt"
	"math"
	"slices"
	"testing"

	"vesper/api"
)

// testROM is a ROM whose byte k is k modulo 251: its two pages differ.
func testROM() []byte {
	b := make([]byte, 512)
	for k := range b {
		b[k] = byte(k % 251)
	}
	return b
}

// ramByte is a byte for RAM's place k; places 256 or 512 apart differ, and the same place in ROM.
func ramByte(k int) byte { return byte(k*7 + k>>8*13 + 91) }

func ramBytes(size int) []byte {
	b := make([]byte, size)
	for k := range b {
		b[k] = ramByte(k)
	}
	return b
}

func mustNew(t *testing.T, size int, rom []byte) *Store {
	t.Helper()
	s, e := New(size, rom)
	if s == nil || e != api.OK {
		t.Fatalf("New(%d, %d bytes) = %v, %d", size, len(rom), s, e)
	}
	return s
}

func mustLay(t *testing.T, s *Store, at int, b []byte) {
	t.Helper()
	if e := s.Lay(at, b); e != api.OK {
		t.Fatalf("Lay(%d, %d bytes) = %d", at, len(b), e)
	}
}

// twin is the document's words once more: RAM, ROM and the latch.
type twin struct {
	ram, rom []byte
	latch    bool
}

// row is one of the document's table of what an address leads to: its last address, and what is there with the latch set and let go.
type row struct {
	last     int
	set, off string
}

func (w twin) table() []row {
	return []row{
		{len(w.ram) - 1, "rom modulo", "ram"},
		{0x7fff, "rom modulo", "nowhere"},
		{0x81ff, "rom less", "rom less"},
		{0xffff, "nowhere", "nowhere"},
	}
}

func (w twin) kind(a int) string {
	for _, r := range w.table() {
		if a <= r.last && w.latch {
			return r.set
		}
		if a <= r.last {
			return r.off
		}
	}
	return "no address"
}

func (w twin) read(a int) byte {
	switch w.kind(a) {
	case "ram":
		return w.ram[a]
	case "rom modulo":
		return w.rom[a%512]
	case "rom less":
		return w.rom[a-0x8000]
	}
	return 0xff
}

func (w twin) write(a int, b byte) {
	if w.kind(a) == "ram" {
		w.ram[a] = b
	}
}

// same holds a store against its twin: its bytes, its latch, all its addresses.
func same(t *testing.T, what string, s *Store, w twin) {
	t.Helper()
	if s.Latch() != w.latch {
		t.Fatalf("%s: Latch() = %v", what, s.Latch())
	}
	if got := s.RAM(); !bytes.Equal(got, w.ram) {
		t.Fatalf("%s: RAM() has %d bytes, wanted %d, or others", what, len(got), len(w.ram))
	}
	if got := s.ROM(); !bytes.Equal(got, w.rom) {
		t.Fatalf("%s: ROM() has %d bytes, or others", what, len(got))
	}
	for a := range 65536 {
		if got, want := s.Read(uint16(a)), w.read(a); got != want {
			t.Fatalf("%s: Read(%04x) = %02x, wanted %02x", what, a, got, want)
		}
	}
}

// P3.1: each size by steps of 2048 is taken, and gives so much RAM, all 0, the ROM, the latch set.
func TestNewOfEverySize(t *testing.T) {
	taken := 0
	for size := -2049; size <= 36000; size++ {
		s, e := New(size, testROM())
		if size < 2048 || size > 32768 || size%2048 != 0 {
			if s != nil || e != api.ErrStoreSize {
				t.Fatalf("New(%d) = %v, %d, wanted ErrStoreSize", size, s != nil, e)
			}
			continue
		}
		taken++
		if s == nil || e != api.OK {
			t.Fatalf("New(%d) = %v, %d", size, s != nil, e)
		}
		same(t, fmt.Sprint("new ", size), s, twin{make([]byte, size), testROM(), true})
	}
	if taken != 16 {
		t.Errorf("%d sizes were taken", taken)
	}
}

// P3.1: sizes and ROMs that may not be; the size is looked at first.
func TestNewOfWrongOnes(t *testing.T) {
	for _, x := range []struct {
		size, rom int
		want      api.Errno
	}{
		{2048, 512, api.OK},
		{32768, 512, api.OK},
		{0, 512, api.ErrStoreSize},
		{2047, 512, api.ErrStoreSize},
		{2049, 512, api.ErrStoreSize},
		{32767, 512, api.ErrStoreSize},
		{32769, 512, api.ErrStoreSize},
		{34816, 512, api.ErrStoreSize},
		{65536, 512, api.ErrStoreSize},
		{-1, 512, api.ErrStoreSize},
		{-2048, 512, api.ErrStoreSize},
		{math.MaxInt, 512, api.ErrStoreSize},
		{math.MinInt, 512, api.ErrStoreSize},
		{math.MaxInt - 2047, 512, api.ErrStoreSize},
		{1<<32 + 2048, 512, api.ErrStoreSize},
		{2048, 0, api.ErrStoreROM},
		{2048, 511, api.ErrStoreROM},
		{2048, 513, api.ErrStoreROM},
		{32768, 1024, api.ErrStoreROM},
		{2047, 511, api.ErrStoreSize},
		{0, 0, api.ErrStoreSize},
		{34816, 513, api.ErrStoreSize},
	} {
		if s, e := New(x.size, make([]byte, x.rom)); e != x.want || (s != nil) != (x.want == api.OK) {
			t.Errorf("New(%d, %d bytes) = %v, %d, wanted %d", x.size, x.rom, s != nil, e, x.want)
		}
	}
	if s, e := New(4096, nil); s != nil || e != api.ErrStoreROM {
		t.Errorf("New(4096, nil) = %v, %d", s != nil, e)
	}
	if s, e := New(4095, nil); s != nil || e != api.ErrStoreSize {
		t.Errorf("New(4095, nil) = %v, %d", s != nil, e)
	}
}

// P3.2: which bytes fit where, and what then lies there; with the latch set and let go.
func TestLayFits(t *testing.T) {
	for _, size := range []int{2048, 4096, 32768} {
		for _, latch := range []bool{true, false} {
			for _, x := range []struct{ at, n int }{
				{0, 0}, {0, 1}, {0, size}, {1, size - 1}, {5, 3}, {700, 900}, {size - 1, 1}, {size - 1, 0}, {size - 2, 2}, {size, 0},
			} {
				s := mustNew(t, size, testROM())
				mustLay(t, s, 0, ramBytes(size))
				s.SetLatch(latch)
				b := bytes.Repeat([]byte{0xa5, 0x00, 0x5a}, size)[:x.n]
				want := twin{ramBytes(size), testROM(), latch}
				copy(want.ram[x.at:], b)
				if e := s.Lay(x.at, b); e != api.OK {
					t.Errorf("Lay(%d, %d bytes) = %d, with %d bytes of RAM", x.at, x.n, e, size)
				}
				same(t, fmt.Sprintf("lay %d at %d of %d", x.n, x.at, size), s, want)
			}
		}
	}
}

// P3.2: what does not fit is refused, and changes nothing.
func TestLayDoesNotFit(t *testing.T) {
	for _, size := range []int{2048, 4096, 32768} {
		for _, latch := range []bool{true, false} {
			s := mustNew(t, size, testROM())
			mustLay(t, s, 0, ramBytes(size))
			s.SetLatch(latch)
			for _, x := range []struct{ at, n int }{
				{-1, 0}, {-1, 1}, {-1, size}, {-2048, 3}, {math.MinInt, 0}, {math.MinInt, 1}, {math.MinInt, size + 1},
				{0, size + 1}, {1, size}, {size - 1, 2}, {size, 1}, {size + 1, 0}, {size + 1, 1}, {0x8000, 1}, {0x8001, 0},
				{math.MaxInt, 0}, {math.MaxInt, 1}, {math.MaxInt, size}, {math.MaxInt - 1, 2}, {math.MaxInt - size + 1, size},
				{1 << 32, 0}, {1<<32 + 1, 1}, {-1 << 32, 1}, {0, 70000},
			} {
				if e := s.Lay(x.at, make([]byte, x.n)); e != api.ErrStoreRoom {
					t.Errorf("Lay(%d, %d bytes) = %d, with %d bytes of RAM, wanted ErrStoreRoom", x.at, x.n, e, size)
				}
			}
			if e := s.Lay(-1, nil); e != api.ErrStoreRoom {
				t.Errorf("Lay(-1, nil) = %d", e)
			}
			if e := s.Lay(size, nil); e != api.OK {
				t.Errorf("Lay(%d, nil) = %d", size, e)
			}
			same(t, fmt.Sprint("laid nothing of ", size), s, twin{ramBytes(size), testROM(), latch})
		}
	}
}

// P3.3: all addresses, read and written, with the latch set, let go and set again, for each size.
func TestEveryAddress(t *testing.T) {
	for size := 2048; size <= 32768; size += 2048 {
		s := mustNew(t, size, testROM())
		mustLay(t, s, 0, ramBytes(size))
		w := twin{ramBytes(size), testROM(), true}
		for step, latch := range []bool{true, false, true, false} {
			s.SetLatch(latch)
			w.latch = latch
			what := fmt.Sprintf("%d bytes, latch %v, step %d", size, latch, step)
			same(t, what, s, w)
			for a := range 65536 {
				b := byte(a*3 + step*17 + 5)
				s.Write(uint16(a), b)
				w.write(a, b)
			}
			same(t, what+", written", s, w)
		}
	}
}

// P3.3: each write that leads to RAM changes that one byte; any other one changes nothing.
func TestOneWrite(t *testing.T) {
	const size = 4096
	for _, a := range []int{0, 1, 255, 256, 511, 512, 2047, 2048, 4095, 4096, 4097, 0x1fff, 0x7fff, 0x8000, 0x8001, 0x81ff, 0x8200, 0x8fff, 0x9000, 0xffff} {
		for _, latch := range []bool{true, false} {
			for _, b := range []byte{0x00, 0x01, 0x80, 0xff} {
				s := mustNew(t, size, testROM())
				mustLay(t, s, 0, ramBytes(size))
				s.SetLatch(latch)
				want := ramBytes(size)
				if a < size && !latch {
					want[a] = b
				}
				s.Write(uint16(a), b)
				same(t, fmt.Sprintf("Write(%04x, %02x), latch %v", a, b, latch), s, twin{want, testROM(), latch})
			}
		}
	}
}

// P3.4: the latch is as it was said last.
func TestLatch(t *testing.T) {
	s := mustNew(t, 2048, testROM())
	if !s.Latch() {
		t.Error("a new store's latch is let go")
	}
	for k, on := range []bool{true, false, false, true, true, false, true} {
		s.SetLatch(on)
		if s.Latch() != on {
			t.Errorf("call %d: SetLatch(%v), Latch() = %v", k, on, s.Latch())
		}
	}
}

// P3.4: a clone is the same in all, whatever its first is; each goes on by itself.
func TestClone(t *testing.T) {
	for _, size := range []int{2048, 6144, 32768} {
		for _, latch := range []bool{true, false} {
			s := mustNew(t, size, testROM())
			mustLay(t, s, 0, ramBytes(size))
			s.SetLatch(latch)
			c := s.Clone()
			if c == nil || c == s {
				t.Fatal("no other store")
			}
			same(t, "clone", c, twin{ramBytes(size), testROM(), latch})

			mustLay(t, s, 0, bytes.Repeat([]byte{0x11}, size))
			s.SetLatch(!latch)
			same(t, "clone, its first changed", c, twin{ramBytes(size), testROM(), latch})

			c.SetLatch(false)
			c.Write(uint16(size-1), 0x77)
			mustLay(t, c, 3, []byte{0x22, 0x33})
			same(t, "first, its clone changed", s, twin{bytes.Repeat([]byte{0x11}, size), testROM(), !latch})
			want := ramBytes(size)
			want[size-1], want[3], want[4] = 0x77, 0x22, 0x33
			same(t, "clone, changed", c, twin{want, testROM(), false})

			cc := c.Clone()
			cc.Write(0, 0x44)
			same(t, "clone, its own clone changed", c, twin{want, testROM(), false})
		}
	}
}

// rule R5: what New and Lay are handed is neither changed nor kept, the room behind it neither.
func TestArgumentsStayAndAreNotKept(t *testing.T) {
	room := slices.Concat(testROM(), []byte{1, 2, 3})
	s := mustNew(t, 2048, room[:512])
	wide := slices.Concat([]byte{9, 8, 7}, []byte{6, 5})
	mustLay(t, s, 2045, wide[:3])
	s.SetLatch(false)
	s.Write(2045, 0x55)
	s.Write(0x8000, 0x55)
	if !bytes.Equal(room, slices.Concat(testROM(), []byte{1, 2, 3})) || !bytes.Equal(wide, []byte{9, 8, 7, 6, 5}) {
		t.Error("an argument was changed")
	}
	for k := range room {
		room[k] = 0xee
	}
	for k := range wide {
		wide[k] = 0xee
	}
	want := make([]byte, 2048)
	copy(want[2045:], []byte{0x55, 8, 7})
	same(t, "arguments written over", s, twin{want, testROM(), false})
}

// rule R5: RAM and ROM answer new memory each time, spare room too.
func TestAnswersAreNew(t *testing.T) {
	s := mustNew(t, 2048, testROM())
	mustLay(t, s, 0, ramBytes(2048))
	c := s.Clone()
	firstRAM, firstROM := s.RAM(), s.ROM()
	for _, answer := range [][]byte{s.RAM(), s.ROM(), c.RAM(), c.ROM()} {
		answer = answer[:cap(answer)]
		for k := range answer {
			answer[k] = 0xee
		}
	}
	if !bytes.Equal(firstRAM, ramBytes(2048)) || !bytes.Equal(firstROM, testROM()) {
		t.Error("two answers share their memory")
	}
	for _, latch := range []bool{true, false} {
		s.SetLatch(latch)
		c.SetLatch(latch)
		same(t, "answers written over", s, twin{ramBytes(2048), testROM(), latch})
		same(t, "clone, answers written over", c, twin{ramBytes(2048), testROM(), latch})
	}
	s.SetLatch(false)
	s.Write(7, 0x99)
	mustLay(t, s, 8, []byte{0x98})
	if !bytes.Equal(firstRAM, ramBytes(2048)) {
		t.Error("an answer changed behind a write")
	}
}

// rule R3: a nil and an empty list are the same; neither is a ROM, either is laid.
func TestNilLists(t *testing.T) {
	s := mustNew(t, 2048, testROM())
	for _, none := range [][]byte{nil, {}} {
		if got, e := New(2048, none); got != nil || e != api.ErrStoreROM {
			t.Errorf("New(2048, none) = %v, %d", got != nil, e)
		}
		for _, x := range []struct {
			at   int
			want api.Errno
		}{{0, api.OK}, {2048, api.OK}, {2049, api.ErrStoreRoom}, {-1, api.ErrStoreRoom}} {
			if e := s.Lay(x.at, none); e != x.want {
				t.Errorf("Lay(%d, none) = %d", x.at, e)
			}
		}
	}
}

// rule R2: a nil Store tells ErrNil ahead of all else, answers zero values, and does nothing.
func TestNilStore(t *testing.T) {
	var s *Store
	for _, at := range []int{0, -1, math.MaxInt, math.MinInt} {
		for _, b := range [][]byte{nil, {1}, make([]byte, 40000)} {
			if e := s.Lay(at, b); e != api.ErrNil {
				t.Errorf("Lay(%d, %d bytes) = %d", at, len(b), e)
			}
		}
	}
	s.SetLatch(true)
	if s.Latch() {
		t.Error("Latch() = true")
	}
	for _, a := range []uint16{0, 1, 0x7fff, 0x8000, 0x8200, 0xffff} {
		s.Write(a, 1)
		if got := s.Read(a); got != 0 {
			t.Errorf("Read(%04x) = %02x", a, got)
		}
	}
	if s.RAM() != nil || s.ROM() != nil || s.Clone() != nil {
		t.Error("a nil store has bytes, or a clone")
	}
}

// P3.5: a byte of RAM is what was laid or written last; with the latch set nothing is written, and what was there before comes back.
func TestWrittenAhead(t *testing.T) {
	s := mustNew(t, 2048, testROM())
	s.SetLatch(false)
	s.Write(0x10, 0xa1)
	mustLay(t, s, 0x11, []byte{0xa2, 0xa3})
	s.Write(0x12, 0xa4)
	s.SetLatch(true)
	s.Write(0x10, 0xb1)
	s.Write(0x13, 0xb2)
	s.Write(0x8010, 0xb3)
	if got := []byte{s.Read(0x10), s.Read(0x11), s.Read(0x12), s.Read(0x13)}; !bytes.Equal(got, []byte{0x10, 0x11, 0x12, 0x13}) {
		t.Errorf("with the latch set %x is read", got)
	}
	if got := s.RAM()[0x10:0x14]; !bytes.Equal(got, []byte{0xa1, 0xa2, 0xa4, 0x00}) {
		t.Errorf("with the latch set RAM has %x", got)
	}
	mustLay(t, s, 0x14, []byte{0xc1}) // this is no write: the latch does not hold it off
	s.SetLatch(false)
	if got := []byte{s.Read(0x10), s.Read(0x11), s.Read(0x12), s.Read(0x13), s.Read(0x14), s.Read(0x15)}; !bytes.Equal(got, []byte{0xa1, 0xa2, 0xa4, 0x00, 0xc1, 0x00}) {
		t.Errorf("with the latch let go again %x is read", got)
	}
	s.Write(0x14, 0xc2)
	mustLay(t, s, 0x10, []byte{0xd1})
	want := make([]byte, 2048)
	copy(want[0x10:], []byte{0xd1, 0xa2, 0xa4, 0x00, 0xc2})
	same(t, "written last", s, twin{want, testROM(), false})
}

// P3.5: many calls one behind the other, held against the twin.
func TestManyCalls(t *testing.T) {
	for _, size := range []int{2048, 10240, 32768} {
		seed := uint32(size)
		next := func(n int) int { // a row of numbers that is the same in every run
			seed = seed*1664525 + 1013904223
			return int(seed>>8) % n
		}
		s := mustNew(t, size, testROM())
		w := twin{make([]byte, size), testROM(), true}
		for step := range 40000 {
			switch next(12) {
			case 0:
				w.latch = next(2) == 0
				s.SetLatch(w.latch)
			case 1:
				at, b := next(size+40)-20, ramBytes(next(60))
				want := api.ErrStoreRoom
				if at >= 0 && at+len(b) <= size {
					want = api.OK
					copy(w.ram[at:], b)
				}
				if e := s.Lay(at, b); e != want {
					t.Fatalf("step %d: Lay(%d, %d bytes) = %d, wanted %d", step, at, len(b), e, want)
				}
			case 2:
				s = s.Clone()
			default:
				a, b := next(65536), byte(next(256))
				if next(4) > 0 {
					a %= size
				}
				s.Write(uint16(a), b)
				w.write(a, b)
				if got := s.Read(uint16(a)); got != w.read(a) {
					t.Fatalf("step %d: Read(%04x) = %02x, wanted %02x", step, a, got, w.read(a))
				}
			}
		}
		for _, latch := range []bool{true, false} {
			s.SetLatch(latch)
			w.latch = latch
			same(t, fmt.Sprint("many calls, ", size), s, w)
		}
	}
}

// The chapter's examples, in their order.
func TestExamples(t *testing.T) {
	for _, size := range []int{0, 2049, 34816} {
		if s, e := New(size, testROM()); s != nil || e != api.ErrStoreSize {
			t.Errorf("New(%d, ..) = %d", size, e)
		}
	}
	if _, e := New(2048, testROM()[:511]); e != api.ErrStoreROM {
		t.Errorf("New(2048, 511 bytes) = %d", e)
	}
	if _, e := New(2047, testROM()[:511]); e != api.ErrStoreSize {
		t.Errorf("New(2047, 511 bytes) = %d", e)
	}
	s := mustNew(t, 2048, testROM())
	reads := func(when string, want byte, a uint16) {
		t.Helper()
		if got := s.Read(a); got != want {
			t.Errorf("%s: Read(%04x) = %d, wanted %d", when, a, got, want)
		}
	}
	reads("new", 0, 0)
	reads("new", 49, 300)
	reads("new", 9, 0x7fff)
	reads("new", 1, 0x8001)
	reads("new", 255, 0x8200)
	s.Write(5, 7)
	s.SetLatch(false)
	reads("written while the latch was set", 0, 5)
	s.Write(5, 7)
	reads("written", 7, 5)
	s.Write(0x8005, 9)
	reads("written", 5, 0x8005)
	reads("written", 255, 0x800)
	for _, x := range []struct {
		at, n int
		want  api.Errno
	}{{2047, 1, api.OK}, {2047, 2, api.ErrStoreRoom}, {-1, 0, api.ErrStoreRoom}, {2048, 0, api.OK}} {
		if e := s.Lay(x.at, make([]byte, x.n)); e != x.want {
			t.Errorf("Lay(%d, of %d) = %d", x.at, x.n, e)
		}
	}
}

// The document's numbers of the errors and limits that this layer has.
func TestNumbers(t *testing.T) {
	if api.ErrNil != 3 || api.ErrStoreSize != 30 || api.ErrStoreROM != 31 || api.ErrStoreRoom != 32 {
		t.Error("an error has another number")
	}
	if api.RAMStep != 2048 || api.MaxRAM != 32768 || api.ROMSize != 512 || api.ROMAt != 0x8000 {
		t.Error("a limit is another one")
	}
}
