package snap

import (
	"bytes"
	"fmt"
	"slices"
	"testing"

	"vesper/api"
)

// P21.4: Load of Save is the machine, Save of what Load takes is the bytes.
func TestThereAndBack(t *testing.T) {
	d := uint64(4)
	for range 600 {
		m := anyMachine(&d)
		b := mustSave(t, m)
		back := mustLoad(t, b)
		if !same(back, m) {
			t.Fatalf("Load of Save of %s: %s", brief(m), brief(back))
		}
		if again := mustSave(t, back); !bytes.Equal(again, b) {
			t.Fatalf("Save of Load of Save of %s: other bytes", brief(m))
		}
	}
}

// P21.4: whatever bytes Load takes, they are what Save makes of it: there is one form alone.
func TestOneFormAlone(t *testing.T) {
	d := uint64(44)
	taken := 0
	for range 4000 {
		b := twinSave(anyMachine(&d))
		for range 1 + draw(&d, 3) {
			b[4+draw(&d, 59)] = byte(draw(&d, 256) >> draw(&d, 8))
		}
		m, e := Load(mended(b))
		if e != api.OK {
			continue
		}
		taken++
		if again := mustSave(t, m); !bytes.Equal(again, mended(b)) {
			t.Fatalf("Save of what Load took, %s: other bytes", brief(m))
		}
	}
	if taken < 100 {
		t.Errorf("%d were taken", taken)
	}
}

// P21.5: a saved machine of which one byte is another one: the error is the one that P21.2 names.
func TestAnotherByte(t *testing.T) {
	for _, m := range []api.Board{power(t, 2048), changed(func(m *api.Board) { m.RAM = m.RAM[:2048] })} {
		b := mustSave(t, m)
		for at := range b {
			others := []byte{1, 2, 0x80, 0xff, byte(1 + at%255)} // by what the byte is turned
			if at < headSize || at >= len(b)-8 {
				others = others[:0]
				for by := 1; by < 256; by++ {
					others = append(others, byte(by))
				}
			}
			for _, by := range others {
				other := with(b, at, b[at]^by)
				want := api.ErrSnapSum
				if at < 4 || at == 61 || at == 62 || slices.Contains(flagsAt, at) && other[at] > 1 {
					want = api.ErrSnapForm
				}
				if got, e := Load(other); e != want || !same(got, api.Board{}) {
					t.Fatalf("%02x at %d: %s, %d; want %d", other[at], at, brief(got), e, want)
				}
			}
		}
	}
}

// P21.5: several bytes that are other ones, and bytes that have changed places.
func TestOtherBytes(t *testing.T) {
	d := uint64(55)
	for range 3000 {
		m := anyMachine(&d)
		b := twinSave(m)
		other := slices.Clone(b)
		for range 2 + draw(&d, 6) {
			i, k := draw(&d, len(b)), draw(&d, len(b))
			other[i], other[k] = other[k], other[i]
			other[draw(&d, len(b))] ^= byte(1 + draw(&d, 255))
		}
		if bytes.Equal(other, b) {
			continue
		}
		if got, e := Load(other); e == api.OK || !same(got, api.Board{}) {
			t.Fatalf("%s with other bytes: %d", brief(m), e)
		}
	}
}

// P21.5: bytes that are cut off, so many at a time; bytes that are put behind.
func TestCutOffPutBehind(t *testing.T) {
	for _, m := range []api.Board{power(t, 2048), odd()} {
		b := mustSave(t, m)
		for n := range b {
			if got, e := Load(b[:n]); e != api.ErrSnapForm || !same(got, api.Board{}) {
				t.Fatalf("the first %d bytes: %d", n, e)
			}
			if n > 0 {
				if got, e := Load(b[n:]); e == api.OK || !same(got, api.Board{}) {
					t.Fatalf("without the first %d bytes: %d", n, e)
				}
			}
		}
		for one := range 256 {
			wantRefused(t, fmt.Sprintf("%02x behind it", one), append(slices.Clone(b), byte(one)), api.ErrSnapForm)
		}
		for n := 1; n < 5000; n += 13 {
			wantRefused(t, fmt.Sprintf("%d bytes behind it", n), append(slices.Clone(b), make([]byte, n)...), api.ErrSnapForm)
			wantRefused(t, fmt.Sprintf("%d of its own bytes behind it", n), append(slices.Clone(b), b[:n%len(b)+1]...), api.ErrSnapForm)
		}
	}
}

// P21.5: a machine of one size, cut or lengthened to the length of another one, is not that one.
func TestLengthsOfOthers(t *testing.T) {
	d := uint64(5)
	for from := 2048; from <= 32768; from += 2048 {
		b := mustSave(t, changed(func(m *api.Board) { m.RAM = mixed(&d, from) }))
		for to := 2048; to <= 32768; to += 2048 {
			if to == from {
				continue
			}
			other := make([]byte, 583+to)
			copy(other, b)
			wantRefused(t, fmt.Sprintf("%d bytes as %d", from, to), other, api.ErrSnapForm)
			wantRefused(t, fmt.Sprintf("%d bytes as %d, the right sum", from, to), mended(other), api.ErrSnapForm)
			other[61], other[62] = byte(to), byte(to>>8)
			wantRefused(t, fmt.Sprintf("%d bytes as %d, with its length", from, to), other, api.ErrSnapSum)
		}
	}
}
