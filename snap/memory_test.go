package snap

import (
	"bytes"
	"slices"
	"testing"

	"vesper/api"
)

// roomy is bytes with others in the room behind their end, and all of it.
func roomy(b []byte) ([]byte, []byte) {
	whole := append(slices.Clone(b), 0xee, 0x01, 0xff, 0x00)
	return whole[:len(b)], whole
}

// overwrite writes over bytes and all the room behind their end.
func overwrite(b []byte) {
	b = b[:cap(b)]
	for k := range b {
		b[k] ^= 0xff
	}
}

// P21.3: Save changes nothing of the machine that it is handed, nor the room behind, and does not look there.
func TestSaveChangesNothing(t *testing.T) {
	d := uint64(31)
	for range 60 {
		m := anyMachine(&d)
		want := twinSave(m)
		var ram, rom []byte
		m.RAM, ram = roomy(m.RAM)
		m.ROM, rom = roomy(m.ROM)
		was, ramWas, romWas := copied(m), slices.Clone(ram), slices.Clone(rom)
		b, e := Save(m)
		if e != api.OK || !bytes.Equal(b, want) {
			t.Fatalf("Save = %d bytes, %d", len(b), e)
		}
		if !same(m, was) || !bytes.Equal(ram, ramWas) || !bytes.Equal(rom, romWas) {
			t.Fatal("Save has changed what it was handed")
		}
		overwrite(m.RAM)
		overwrite(m.ROM)
		if !bytes.Equal(b, want) {
			t.Fatal("the answer has changed with what was handed in")
		}
		m = copied(was)
		overwrite(b)
		if !same(m, was) {
			t.Fatal("the machine has changed with the answer")
		}
		if again := mustSave(t, m); !bytes.Equal(again, want) {
			t.Fatal("Save asked anew: other bytes")
		}
	}
}

// P21.3: the answer's memory is none of the machine's, spare room too.
func TestSaveSharesNothing(t *testing.T) {
	m := odd()
	m.RAM, m.ROM = slices.Grow(m.RAM, 9000), slices.Grow(m.ROM, 9000)
	was, ram, rom := copied(m), slices.Clone(m.RAM[:cap(m.RAM)]), slices.Clone(m.ROM[:cap(m.ROM)])
	one := mustSave(t, m)
	two := mustSave(t, m)
	keptOne := slices.Clone(one)
	overwrite(two)
	_ = append(two, 1, 2, 3)
	if !bytes.Equal(one, keptOne) {
		t.Error("an answer has changed with another one")
	}
	overwrite(one)
	if !same(m, was) || !bytes.Equal(m.RAM[:cap(m.RAM)], ram) || !bytes.Equal(m.ROM[:cap(m.ROM)], rom) {
		t.Error("the machine has changed with an answer")
	}
}

// P21.3: Load changes nothing of the bytes that it is handed, nor the room behind, and does not look there.
func TestLoadChangesNothing(t *testing.T) {
	d := uint64(32)
	for range 60 {
		want := anyMachine(&d)
		b, whole := roomy(twinSave(want))
		was := slices.Clone(whole)
		one, two := mustLoad(t, b), mustLoad(t, b)
		if !same(one, want) || !same(two, want) || !bytes.Equal(whole, was) {
			t.Fatal("Load has changed what it was handed, or is another machine")
		}
		overwrite(two.RAM)
		overwrite(two.ROM)
		_, _ = append(two.RAM, 1, 2, 3), append(two.ROM, 1, 2, 3)
		if !same(one, want) || !bytes.Equal(whole, was) {
			t.Fatal("an answer, or what was handed in, has changed with another answer")
		}
		overwrite(b)
		if !same(one, want) {
			t.Fatal("the answer has changed with what was handed in")
		}
		if again := mustLoad(t, was[:len(b)]); !same(again, want) {
			t.Fatal("Load asked anew: another machine")
		}
	}
}

// P21.3: RAM and ROM of one answer share nothing, spare room too.
func TestLoadSharesNothing(t *testing.T) {
	b := twinSave(odd())
	m := mustLoad(t, b)
	overwrite(m.RAM)
	_ = append(m.RAM, bytes.Repeat([]byte{0xee}, 600)...)
	if !bytes.Equal(m.ROM, odd().ROM) {
		t.Error("ROM has changed with RAM")
	}
	m = mustLoad(t, b)
	overwrite(m.ROM)
	_ = append(m.ROM, bytes.Repeat([]byte{0xee}, 600)...)
	if !bytes.Equal(m.RAM, odd().RAM) {
		t.Error("RAM has changed with ROM")
	}
}

// R5: what stands in the room behind the bytes' end is none of them: what is cut off is not read there.
func TestRoomBehind(t *testing.T) {
	b := twinSave(power(t, 2048))
	for n := range len(b) {
		was := slices.Clone(b)
		if _, e := Load(b[:n]); e != api.ErrSnapForm || !bytes.Equal(b, was) {
			t.Fatalf("the first %d bytes: %d, or others behind them", n, e)
		}
	}
	m := power(t, 4096)
	m.RAM = m.RAM[:2047]
	wantNotSaved(t, "a byte of RAM behind its end", m)
	m = power(t, 2048)
	m.ROM = m.ROM[:511]
	wantNotSaved(t, "a byte of ROM behind its end", m)
}

// R4: what is refused is not changed either, and what is answered beside an error is nothing.
func TestRefusedChangesNothing(t *testing.T) {
	for _, f := range append(faults(), beyond()...) {
		m := changed(f.do)
		was := copied(m)
		wantNotSaved(t, "a fault", m)
		if !same(m, was) {
			t.Fatal("Save has changed what it refused")
		}
	}
	b := twinSave(odd())
	for _, other := range [][]byte{with(b, 0, 0), with(b, 41, 2), with(b, 100, b[100]+1), mended(with(b, 38, 16)), b[:900]} {
		was := slices.Clone(other)
		m, e := Load(other)
		if e == api.OK || !same(m, api.Board{}) || !bytes.Equal(other, was) {
			t.Errorf("Load = %s, %d, or what was handed in has changed", brief(m), e)
		}
	}
}

// R6: calls know nothing of one another: what was refused or taken between them is not seen.
func TestNothingIsKept(t *testing.T) {
	one, two := twinSave(odd()), twinSave(power(t, 2048))
	for range 3 {
		if m := mustLoad(t, one); !same(m, odd()) {
			t.Fatalf("Load = %s", brief(m))
		}
		wantRefused(t, "a wrong sum", with(two, 700, 1), api.ErrSnapSum)
		if m := mustLoad(t, two); !same(m, power(t, 2048)) {
			t.Fatalf("Load = %s", brief(m))
		}
		wantNotSaved(t, "noughts", api.Board{})
		mustSave(t, odd())
		mustSave(t, power(t, 2048))
	}
}
