package snap

import (
	"fmt"
	"math"
	"slices"
	"testing"

	"vesper/api"
	"vesper/board"
)

// fault is something for which board.Check refuses a machine.
type fault struct {
	want api.Errno
	do   func(m *api.Board)
}

func faults() []fault {
	return []fault{
		{api.ErrStoreSize, func(m *api.Board) { m.RAM = nil }},
		{api.ErrStoreSize, func(m *api.Board) { m.RAM = []byte{} }},
		{api.ErrStoreSize, func(m *api.Board) { m.RAM = m.RAM[:1] }},
		{api.ErrStoreSize, func(m *api.Board) { m.RAM = m.RAM[:2047] }},
		{api.ErrStoreSize, func(m *api.Board) { m.RAM = m.RAM[:2049] }},
		{api.ErrStoreSize, func(m *api.Board) { m.RAM = make([]byte, 34816) }},
		{api.ErrStoreSize, func(m *api.Board) { m.RAM = make([]byte, 65535) }},
		{api.ErrStoreSize, func(m *api.Board) { m.RAM = make([]byte, 65536) }},
		{api.ErrStoreSize, func(m *api.Board) { m.RAM = make([]byte, 65536+2048) }},
		{api.ErrStoreROM, func(m *api.Board) { m.ROM = nil }},
		{api.ErrStoreROM, func(m *api.Board) { m.ROM = []byte{} }},
		{api.ErrStoreROM, func(m *api.Board) { m.ROM = m.ROM[:511] }},
		{api.ErrStoreROM, func(m *api.Board) { m.ROM = make([]byte, 513) }},
		{api.ErrCPUState, func(m *api.Board) { m.CPU.P = 16 }},
		{api.ErrCPUState, func(m *api.Board) { m.CPU.P = 255 }},
		{api.ErrCPUState, func(m *api.Board) { m.CPU.X = 16 }},
		{api.ErrCPUState, func(m *api.Board) { m.CPU.X = 255 }},
		{api.ErrCPUState, func(m *api.Board) { m.CPU.Phase, m.CPU.B = 0, 0 }},
		{api.ErrCPUState, func(m *api.Board) { m.CPU.Phase, m.CPU.B = 9, 0 }},
		{api.ErrCPUState, func(m *api.Board) { m.CPU.Phase, m.CPU.B = 255, 0 }},
		{api.ErrCPUState, func(m *api.Board) { m.CPU.Phase = api.Fetch }},
		{api.ErrCPUState, func(m *api.Board) { m.CPU.Op = 0x30 }},
		{api.ErrCPUState, func(m *api.Board) { m.CPU.Phase, m.CPU.B = api.Begin, 0 }},
		{api.ErrCPUState, func(m *api.Board) { m.CPU.Phase, m.CPU.B = api.Idle, 0 }},
		{api.ErrPixieState, func(m *api.Board) { m.Raster.Line = 262 }},
		{api.ErrPixieState, func(m *api.Board) { m.Raster.Line = 65535 }},
		{api.ErrPixieState, func(m *api.Board) { m.Raster.Cycle = 14 }},
		{api.ErrPixieState, func(m *api.Board) { m.Raster.Cycle = 255 }},
		{api.ErrPixieState, func(m *api.Board) { m.Raster.Got = 9 }},
		{api.ErrPixieState, func(m *api.Board) { m.Raster.Got = 255 }},
		{api.ErrPixieState, func(m *api.Board) { m.Raster.Line = 79 }},
		{api.ErrPixieState, func(m *api.Board) { m.Raster.Cycle = 7 }},
		{api.ErrArg, func(m *api.Board) { m.Pad.Latch = 16 }},
		{api.ErrArg, func(m *api.Board) { m.Pad.Latch = 255 }},
	}
}

// beyond are faults that bytes of the form can not tell: numbers whose bytes would be those of others.
func beyond() []fault {
	return []fault{
		{api.ErrPixieState, func(m *api.Board) { m.Raster.Line = -1 }},
		{api.ErrPixieState, func(m *api.Board) { m.Raster.Line += 65536 }},
		{api.ErrPixieState, func(m *api.Board) { m.Raster.Line -= 65536 }},
		{api.ErrPixieState, func(m *api.Board) { m.Raster.Line = math.MaxInt }},
		{api.ErrPixieState, func(m *api.Board) { m.Raster.Line = math.MinInt }},
		{api.ErrPixieState, func(m *api.Board) { m.Raster.Cycle = -1 }},
		{api.ErrPixieState, func(m *api.Board) { m.Raster.Cycle += 256 }},
		{api.ErrPixieState, func(m *api.Board) { m.Raster.Cycle -= 256 }},
		{api.ErrPixieState, func(m *api.Board) { m.Raster.Got = -1 }},
		{api.ErrPixieState, func(m *api.Board) { m.Raster.Got += 256 }},
		{api.ErrPixieState, func(m *api.Board) { m.Raster.Got -= 256 }},
	}
}

func wantNotSaved(t *testing.T, what string, m api.Board) {
	t.Helper()
	if b, e := Save(m); len(b) != 0 || e != api.ErrSnapState {
		t.Errorf("%s: Save = %d bytes, %d; want ErrSnapState", what, len(b), e)
	}
}

// P21.1: each thing for which board.Check refuses a machine, alone, and with any other one.
func TestSaveOfWrongOnes(t *testing.T) {
	all := append(faults(), beyond()...)
	for k, f := range all {
		m := changed(f.do)
		if e := board.Check(m); e != f.want {
			t.Fatalf("fault %d: Check = %d; want %d", k, e, f.want)
		}
		wantNotSaved(t, fmt.Sprintf("fault %d", k), m)
		for i, g := range all {
			both := changed(f.do)
			if len(both.RAM) < 2049 || len(both.ROM) < 512 { // what is cut already is not cut again
				continue
			}
			g.do(&both)
			if board.Check(both) != api.OK {
				wantNotSaved(t, fmt.Sprintf("faults %d and %d", k, i), both)
			}
		}
	}
	wantNotSaved(t, "a machine of noughts", api.Board{})
	wantNotSaved(t, "a machine without bytes", api.Board{CPU: api.CPU{IE: true, Phase: api.Begin}, RAM: []byte{}, ROM: []byte{}})
}

// P21.1: Save refuses just what board.Check refuses.
func TestSaveAsCheck(t *testing.T) {
	d := uint64(12)
	refused := 0
	for range 3000 {
		m := anyMachine(&d)
		m.RAM = m.RAM[:2048]
		m.CPU.P, m.CPU.Phase, m.CPU.B = byte(draw(&d, 20)), api.Phase(draw(&d, 11)), byte(draw(&d, 2))
		m.Raster.Line, m.Raster.Got, m.Pad.Latch = draw(&d, 280)-5, draw(&d, 4)-1, byte(draw(&d, 18))
		if board.Check(m) == api.OK {
			mustSave(t, m)
			continue
		}
		refused++
		wantNotSaved(t, brief(m), m)
	}
	if refused == 0 || refused == 3000 {
		t.Errorf("%d of them were refused", refused)
	}
}

// P21.2: a machine that may not be, in the form and with the right sum; with a wrong sum that is told, and what is wrong with the form ahead of both.
func TestLoadOfWrongMachines(t *testing.T) {
	for k, f := range faults() {
		m := changed(f.do)
		if f.want == api.ErrStoreROM || len(m.RAM) > 65535 { // there is no form for these
			continue
		}
		b, what := twinSave(m), fmt.Sprintf("fault %d", k)
		wantRefused(t, what, b, api.ErrSnapState)
		for at := len(b) - 8; at < len(b); at++ {
			wantRefused(t, what+" and a wrong sum", with(b, at, b[at]+1), api.ErrSnapSum)
		}
		wantRefused(t, what+" and a wrong byte of RAM or ROM", with(b, len(b)-9, b[len(b)-9]^1), api.ErrSnapSum)
		for _, at := range flagsAt {
			wantRefused(t, what+" and 2 at a flag", mended(with(b, at, 2)), api.ErrSnapForm)
			wantRefused(t, what+", 2 at a flag, and a wrong sum", with(b, at, 2), api.ErrSnapForm)
		}
		wantRefused(t, what+" and another signature", mended(with(b, 2, 'Q')), api.ErrSnapForm)
		wantRefused(t, what+" and a byte too few", b[:len(b)-1], api.ErrSnapForm)
		wantRefused(t, what+" and a byte too many", mended(append(slices.Clone(b), 0)), api.ErrSnapForm)
	}
}

// P21.2: machines of any size of RAM that there is no store of.
func TestLoadOfOtherSizes(t *testing.T) {
	d := uint64(61)
	sizes := []int{0, 1, 2, 255, 256, 2047, 2048, 2049, 4095, 4097, 32767, 32768, 32769, 34816, 63488, 65535}
	for range 200 {
		sizes = append(sizes, draw(&d, 65536))
	}
	for _, n := range sizes {
		b := twinSave(changed(func(m *api.Board) { m.RAM = make([]byte, n) }))
		want := api.ErrSnapState
		if n >= 2048 && n <= 32768 && n%2048 == 0 {
			want = api.OK
		}
		wantRefused(t, fmt.Sprintf("%d bytes of RAM", n), b, want)
	}
}

// P21.2: nothing, and all lengths up to those of the least form; with the right sum, where there is room for one.
func TestLoadOfFewBytes(t *testing.T) {
	whole := twinSave(odd())
	for _, b := range [][]byte{nil, {}, whole[:0]} {
		wantRefused(t, "nothing", b, api.ErrSnapForm)
	}
	for n := range 700 {
		wantRefused(t, fmt.Sprintf("%d bytes", n), whole[:n], api.ErrSnapForm)
		none := slices.Clone(whole[:n])
		if n >= headSize {
			none[61], none[62] = 0, 0
		}
		if n < 583 {
			wantRefused(t, fmt.Sprintf("%d bytes, no RAM", n), none, api.ErrSnapForm)
		}
		if n >= 8 && n != 583 {
			wantRefused(t, fmt.Sprintf("%d bytes, no RAM, the right sum", n), mended(none), api.ErrSnapForm)
		}
		wantRefused(t, fmt.Sprintf("%d noughts", n), make([]byte, n), api.ErrSnapForm)
	}
	none := slices.Clone(whole[:583])
	none[61], none[62] = 0, 0
	wantRefused(t, "583 bytes, no RAM", none, api.ErrSnapSum)
	wantRefused(t, "583 bytes, no RAM, the right sum", mended(none), api.ErrSnapState)
}

// P21.2: another length at 61 than there are bytes, with the right sum and with the one that was there.
func TestLoadOfAnotherLength(t *testing.T) {
	b := twinSave(power(t, 2048))
	for n := range 65536 {
		if n == 2048 {
			continue
		}
		other := slices.Clone(b)
		other[61], other[62] = byte(n), byte(n>>8)
		if _, e := Load(other); e != api.ErrSnapForm {
			t.Fatalf("%d at 61: %d", n, e)
		}
		if n%97 == 0 || n < 4 || n > 65532 {
			wantRefused(t, fmt.Sprintf("%d at 61, the right sum", n), mended(other), api.ErrSnapForm)
		}
	}
}

// P21.2: one byte too few and one too many, at the end and with the right sum.
func TestLoadOfOneByteOff(t *testing.T) {
	for _, m := range []api.Board{power(t, 2048), odd(), power(t, 32768)} {
		b := twinSave(m)
		ahead := b[:len(b)-8]
		wantRefused(t, "one too few", b[:len(b)-1], api.ErrSnapForm)
		wantRefused(t, "one too few, the right sum", summed(ahead[:len(ahead)-1]), api.ErrSnapForm)
		for _, one := range []byte{0, 1, 255} {
			wantRefused(t, "one too many", append(slices.Clone(b), one), api.ErrSnapForm)
			wantRefused(t, "one too many, the right sum", summed(append(slices.Clone(ahead), one)), api.ErrSnapForm)
			wantRefused(t, "one too many, ahead", append([]byte{one}, b...), api.ErrSnapForm)
		}
		wantRefused(t, "twice", slices.Repeat(b, 2), api.ErrSnapForm)
		wantRefused(t, "without its first byte", b[1:], api.ErrSnapForm)
		wantRefused(t, "much too many", append(slices.Clone(b), make([]byte, 1<<20)...), api.ErrSnapForm)
	}
}

// P21.2: each of the first four bytes another one, with the right sum and with a wrong one.
func TestLoadOfAnotherSignature(t *testing.T) {
	b := twinSave(power(t, 2048))
	for at := range 4 {
		for one := range 256 {
			other := with(b, at, byte(one))
			if other[at] == b[at] {
				continue
			}
			wantRefused(t, "another signature", other, api.ErrSnapForm)
			wantRefused(t, "another signature, the right sum", mended(other), api.ErrSnapForm)
		}
	}
}

// P21.2: whatever stands at DF, IE, Q, On and the latch: 0 and 1 are right, all else is not the form, whatever the sum.
func TestLoadOfFlags(t *testing.T) {
	b := twinSave(odd())
	for _, at := range flagsAt {
		for one := range 256 {
			other := with(b, at, byte(one))
			want, summedUp := api.ErrSnapForm, api.ErrSnapForm
			if one < 2 {
				want, summedUp = api.ErrSnapSum, api.OK
			}
			if other[at] == b[at] {
				want = api.OK
			}
			what := fmt.Sprintf("%d at %d", one, at)
			wantRefused(t, what, other, want)
			wantRefused(t, what+", the right sum", mended(other), summedUp)
			if one > 1 { // the machine may not be, either
				wantRefused(t, what+", P 16", mended(with(other, 38, 16)), api.ErrSnapForm)
			}
		}
	}
}

// P21.2: a wrong sum: each bit of it turned, the sums of fewer bytes and of more, noughts, the highest byte first.
func TestLoadOfAnotherSum(t *testing.T) {
	for _, m := range []api.Board{power(t, 2048), odd(), power(t, 32768)} {
		b := twinSave(m)
		end := len(b) - 8
		for k := range 64 {
			wantRefused(t, "a bit of the sum", with(b, end+k/8, b[end+k/8]^1<<(k%8)), api.ErrSnapSum)
		}
		for _, n := range []int{0, 4, 63, end - 1} {
			other := append(slices.Clone(b[:end]), summed(b[:n])[n:]...)
			wantRefused(t, "the sum of fewer bytes", other, api.ErrSnapSum)
		}
		other := append(slices.Clone(b[:end]), summed(b)[len(b):]...)
		wantRefused(t, "the sum of all bytes", other, api.ErrSnapSum)
		wantRefused(t, "no sum", append(slices.Clone(b[:end]), make([]byte, 8)...), api.ErrSnapSum)
		other = slices.Clone(b)
		slices.Reverse(other[end:])
		wantRefused(t, "the sum turned round", other, api.ErrSnapSum)
	}
}

// P21.2: each byte ahead of RAM at each of its 256 values, with the right sum: what comes is what the twin says.
func TestLoadOfEachByte(t *testing.T) {
	machines := []api.Board{power(t, 2048), odd(), changed(func(m *api.Board) {
		m.CPU.Phase, m.CPU.B, m.CPU.Op, m.Raster, m.Latch = api.Idle, 0, 0, api.Raster{Line: 5, Cycle: 9}, true
	})}
	var seen [213]int
	for _, m := range machines {
		b := twinSave(m)
		for at := range headSize {
			for one := range 256 {
				e := wantLoad(t, fmt.Sprintf("%d at %d", one, at), mended(with(b, at, byte(one))))
				seen[e]++
			}
		}
	}
	if seen[api.OK] == 0 || seen[api.ErrSnapForm] == 0 || seen[api.ErrSnapState] == 0 {
		t.Errorf("not all were seen: %v", seen)
	}
}

// P21.2: any bytes, in the form or nearly so, with several things wrong with them.
func TestLoadOfAnything(t *testing.T) {
	d := uint64(1977)
	var seen [213]int
	for k := range 6000 {
		b := twinSave(anyMachine(&d))
		if k%2 == 0 {
			b = mixed(&d, 40+draw(&d, 4000))
			if draw(&d, 4) > 0 {
				copy(b, "VSP1")
			}
		}
		for range draw(&d, 4) {
			at := draw(&d, min(len(b), 70))
			b[at] = []byte{0, 1, 2, 8, 16, 255, byte(draw(&d, 256))}[draw(&d, 7)]
		}
		if draw(&d, 3) == 0 && len(b) >= headSize {
			n := len(b) - 583
			b[61], b[62] = byte(n), byte(n>>8)
		}
		if draw(&d, 2) == 0 {
			b = mended(b)
		}
		seen[wantLoad(t, fmt.Sprintf("bytes %d", k), b)]++
	}
	for _, e := range []api.Errno{api.OK, api.ErrSnapForm, api.ErrSnapSum, api.ErrSnapState} {
		if seen[e] < 20 {
			t.Errorf("%d was seen %d times", e, seen[e])
		}
	}
}
