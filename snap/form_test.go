package snap

import (
	"bytes"
	"fmt"
	"math"
	"slices"
	"testing"

	"vesper/api"
)

// field is a thing in the form: where it stands, in how many bytes, and machines that differ in nothing else, by its number.
type field struct {
	name    string
	at      int
	size    int
	numbers []uint64 // the least and the greatest first
	machine func(n uint64) api.Board
}

// each is the numbers of so many bytes of which one bit is set.
func each(size int) []uint64 {
	var l []uint64
	for k := range 8 * size {
		l = append(l, 1<<k)
	}
	return l
}

// upTo is 0, n, and all between them.
func upTo(n uint64) []uint64 {
	l := []uint64{0, n}
	for k := uint64(1); k < n; k++ {
		l = append(l, k)
	}
	return l
}

// in is a machine by a number, out of the odd one.
func in(do func(m *api.Board, n uint64)) func(n uint64) api.Board {
	return func(n uint64) api.Board { return changed(func(m *api.Board) { do(m, n) }) }
}

// fetching is a machine by a number that has no long branch under way.
func fetching(do func(m *api.Board, n uint64)) func(n uint64) api.Board {
	return in(func(m *api.Board, n uint64) {
		m.CPU.B, m.CPU.Phase = 0, api.Fetch
		do(m, n)
	})
}

// fields are all rows of the chapter's table between the four bytes and RAM's size.
func fields() []field {
	var l []field
	for k := range 16 {
		l = append(l, field{fmt.Sprintf("R%X", k), 4 + 2*k, 2, append([]uint64{0, 0xffff, 0x1234}, each(2)...), in(func(m *api.Board, n uint64) { m.CPU.R[k] = uint16(n) })})
	}
	return append(l,
		field{"D", 36, 1, upTo(255), in(func(m *api.Board, n uint64) { m.CPU.D = byte(n) })},
		field{"DF", 37, 1, upTo(1), in(func(m *api.Board, n uint64) { m.CPU.DF = n == 1 })},
		field{"P", 38, 1, upTo(15), in(func(m *api.Board, n uint64) { m.CPU.P = byte(n) })},
		field{"X", 39, 1, upTo(15), in(func(m *api.Board, n uint64) { m.CPU.X = byte(n) })},
		field{"T", 40, 1, upTo(255), in(func(m *api.Board, n uint64) { m.CPU.T = byte(n) })},
		field{"IE", 41, 1, upTo(1), in(func(m *api.Board, n uint64) { m.CPU.IE = n == 1 })},
		field{"Q", 42, 1, upTo(1), in(func(m *api.Board, n uint64) { m.CPU.Q = n == 1 })},
		field{"Op", 43, 1, upTo(255), fetching(func(m *api.Board, n uint64) { m.CPU.Op = byte(n) })},
		field{"B", 44, 1, upTo(255), in(func(m *api.Board, n uint64) { m.CPU.B = byte(n) })},
		field{"Phase of a long one", 45, 1, []uint64{1, 8, 2, 3, 6, 7}, fetching(func(m *api.Board, n uint64) { m.CPU.Phase = api.Phase(n) })},
		field{"Phase of IDL", 45, 1, []uint64{1, 8, 2, 4, 5, 6, 7}, fetching(func(m *api.Board, n uint64) { m.CPU.Phase, m.CPU.Op = api.Phase(n), 0 })},
		field{"Line", 46, 2, upTo(261), in(func(m *api.Board, n uint64) { m.Raster = api.Raster{Line: int(n), Cycle: 13, On: true} })},
		field{"Cycle", 48, 1, upTo(13), in(func(m *api.Board, n uint64) { m.Raster = api.Raster{Line: 200, Cycle: int(n), On: true} })},
		field{"On", 49, 1, upTo(1), in(func(m *api.Board, n uint64) { m.Raster.On = n == 1 })},
		field{"Got", 50, 1, upTo(8), in(func(m *api.Board, n uint64) { m.Raster = api.Raster{Line: 200, Cycle: 13, On: true, Got: int(n)} })},
		field{"the pad's latch", 51, 1, upTo(15), in(func(m *api.Board, n uint64) { m.Pad.Latch = byte(n) })},
		field{"the latch", 52, 1, upTo(1), in(func(m *api.Board, n uint64) { m.Latch = n == 1 })},
		field{"Cycles", 53, 8, append([]uint64{0, math.MaxUint64, 0x0123456789abcdef}, each(8)...), in(func(m *api.Board, n uint64) { m.Cycles = n })},
	)
}

// lowestFirst is a number's bytes.
func lowestFirst(n uint64, size int) []byte {
	var b []byte
	for range size {
		b = append(b, byte(n%256))
		n /= 256
	}
	return b
}

// P21.1, P21.2: each field alone stands at its place, lowest byte first, and changes no byte elsewhere but the sum's; it is read back.
func TestFields(t *testing.T) {
	for _, f := range fields() {
		ahead := mustSave(t, f.machine(f.numbers[0]))
		for _, n := range f.numbers {
			m := f.machine(n)
			b := mustSave(t, m)
			want := slices.Clone(ahead)
			copy(want[f.at:], lowestFirst(n, f.size))
			if !bytes.Equal(b, mended(want)) {
				t.Errorf("%s %d: %x at %d; want %x, and nothing else another one", f.name, n, b[f.at:f.at+f.size], f.at, lowestFirst(n, f.size))
			}
			if got := mustLoad(t, b); !same(got, m) {
				t.Errorf("%s %d: Load = %s; want %s", f.name, n, brief(got), brief(m))
			}
		}
	}
}

// The fields' bytes follow on one another, from 4 to 61.
func TestFieldsFollow(t *testing.T) {
	next := 4
	for _, f := range fields() {
		if f.at == next {
			next += f.size
		}
	}
	if next != 61 {
		t.Errorf("no field stands at %d", next)
	}
}

// P21.1: what stands ahead of all, and behind the fields: RAM's size, RAM, ROM, the sum; for each size of RAM.
func TestEverySize(t *testing.T) {
	d := uint64(3)
	for n := 2048; n <= 32768; n += 2048 {
		m := changed(func(m *api.Board) { m.RAM = mixed(&d, n) })
		b := mustSave(t, m)
		if len(b) != 583+n || string(b[:4]) != "VSP1" || int(b[61])+256*int(b[62]) != n {
			t.Fatalf("%d bytes of RAM: %d bytes, %x ..", n, len(b), b[:headSize])
		}
		if !bytes.Equal(b[63:63+n], m.RAM) || !bytes.Equal(b[63+n:575+n], m.ROM) {
			t.Fatalf("%d bytes of RAM: RAM or ROM stand otherwise", n)
		}
		if got := mustLoad(t, b); !same(got, m) {
			t.Errorf("%d bytes of RAM: Load = %s", n, brief(got))
		}
	}
}

// P21.1: each byte of RAM and ROM stands at its own place.
func TestBytesOfMemory(t *testing.T) {
	for _, n := range []int{2048, 32768} {
		m := changed(func(m *api.Board) { m.RAM, m.ROM = make([]byte, n), make([]byte, 512) })
		ahead := mustSave(t, m)
		ahead = ahead[:len(ahead)-8]
		look := func(l []byte, k, at int) {
			for _, one := range []byte{1, 255} {
				l[k] = one
				b, e := Save(m)
				ahead[at] = one
				if e != api.OK || !bytes.Equal(b[:575+n], ahead) {
					t.Fatalf("%d of %d bytes is %d: not at %d, or not it alone", k, len(l), one, at)
				}
			}
			l[k], ahead[at] = 0, 0
		}
		for k := 0; k < n; k += max(1, n/512-1) {
			look(m.RAM, k, 63+k)
		}
		look(m.RAM, n-1, 62+n)
		for k := range 512 {
			look(m.ROM, k, 63+n+k)
		}
	}
}

// P21.1: any machine that may be.
func TestSaveAnyMachine(t *testing.T) {
	d := uint64(1)
	var phases [9]int
	for range 1500 {
		m := anyMachine(&d)
		phases[m.CPU.Phase]++
		mustSave(t, m)
	}
	if slices.Contains(phases[1:], 0) {
		t.Errorf("phases: %v", phases)
	}
}
