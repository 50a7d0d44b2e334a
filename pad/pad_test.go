package pad

import (
	"math"
	"slices"
	"testing"

	"vesper/api"
)

// What a mask says of the keys 0 to 15, worked out by sums alone.
func twinDown(key int, mask uint16) bool {
	worth := 1
	for range key {
		worth *= 2
	}
	return int(mask)/worth%2 == 1
}

// twinLatch is the latch behind a cycle, by the words of P6.2.
func twinLatch(latch byte, d api.Drive, data byte) byte {
	switch {
	case d.Port == 2 && d.Read:
		return data - data/16*16
	case latch > 15:
		return 0
	}
	return latch
}

func wantMask(t *testing.T, want uint16, keys ...int) {
	t.Helper()
	if m, e := Mask(keys...); m != want || e != api.OK {
		t.Fatalf("Mask(%v) = %04x, %d; want %04x", keys, m, e, want)
	}
}

func wantNoMask(t *testing.T, keys ...int) {
	t.Helper()
	if m, e := Mask(keys...); m != 0 || e != api.ErrArg {
		t.Fatalf("Mask(%v) = %04x, %d; want ErrArg", keys, m, e)
	}
}

// drives are all that the pad may look at: ports, reading and writing; half of them have all else of a drive, half nothing.
func drives() []api.Drive {
	var all []api.Drive
	for port := range 256 {
		for k := range 4 {
			d := api.Drive{Port: byte(port), Read: k&1 != 0, Write: k&2 != 0}
			all = append(all, d)
			for _, code := range []byte{0, 1, 2, 3, 255} {
				d.Code, d.Address, d.Own, d.Data, d.Pulse = code, 0xffff, true, 0x3c, true
				all = append(all, d)
			}
		}
	}
	return all
}

// The chapter's examples, P6.1 to P6.3.
func TestExamples(t *testing.T) {
	three := api.Pad{Latch: 3}
	if !Down(three, 0x0008) || Down(three, 0xfff7) {
		t.Error("Down of the latch 3")
	}
	if p := Step(three, api.Drive{Port: 2, Read: true}, 0xa5); p.Latch != 5 {
		t.Errorf("OUT 2: latch %d", p.Latch)
	}
	if p := Step(three, api.Drive{Port: 2, Write: true}, 0xa5); p.Latch != 3 {
		t.Errorf("INP 2: latch %d", p.Latch)
	}
	if p := Step(three, api.Drive{Port: 1, Read: true}, 0xa5); p.Latch != 3 {
		t.Errorf("OUT 1: latch %d", p.Latch)
	}
	if k := Keys(0x8001); !slices.Equal(k, []int{0, 15}) {
		t.Errorf("Keys(8001) = %v", k)
	}
	if k := Keys(0); len(k) != 0 {
		t.Errorf("Keys(0) = %v", k)
	}
	wantMask(t, 0x0011, 4, 0, 4)
	wantMask(t, 0)
	wantNoMask(t, 16)
	wantNoMask(t, 3, -1)
}

// P6.1: each latch with each key alone, all but it, none and all.
func TestDownKeyByKey(t *testing.T) {
	for latch := range 16 {
		p := api.Pad{Latch: byte(latch)}
		for key := range 16 {
			alone := uint16(math.Pow(2, float64(key)))
			if Down(p, alone) != (latch == key) || Down(p, 0xffff-alone) != (latch != key) {
				t.Errorf("the latch %d, the key %d", latch, key)
			}
		}
		if Down(p, 0) || !Down(p, 0xffff) {
			t.Errorf("the latch %d: no key, all keys", latch)
		}
	}
}

// P6.1: every mask, every latch that may be.
func TestDownEveryMask(t *testing.T) {
	for mask := range 65536 {
		for latch := range 16 {
			if got := Down(api.Pad{Latch: byte(latch)}, uint16(mask)); got != twinDown(latch, uint16(mask)) {
				t.Fatalf("Down of the latch %d, keys %04x = %v", latch, mask, got)
			}
		}
	}
}

// P6.1: no key is at a latch above 15, also not the one of its low four bits.
func TestDownLatchTooHigh(t *testing.T) {
	for latch := 16; latch < 256; latch++ {
		for _, mask := range []uint16{0, 1, 0x8000, 0x5555, 0xaaaa, 0xffff} {
			if Down(api.Pad{Latch: byte(latch)}, mask) {
				t.Errorf("Down of the latch %d, keys %04x", latch, mask)
			}
		}
	}
}

// P6.2: every latch, every port, reading, writing, both and neither, whatever else a drive has.
func TestStep(t *testing.T) {
	for _, d := range drives() {
		for latch := range 256 {
			for _, data := range []byte{0x00, 0x0f, 0x10, 0xa5, 0xf0, 0xff} {
				got := Step(api.Pad{Latch: byte(latch)}, d, data)
				if want := (api.Pad{Latch: twinLatch(byte(latch), d, data)}); got != want {
					t.Fatalf("Step of the latch %d, %+v, data %02x = %+v; want %+v", latch, d, data, got, want)
				}
			}
		}
	}
}

// P6.2: OUT 2 of every byte, from each latch at the edges; INP 2 of it moves nothing.
func TestStepEveryByte(t *testing.T) {
	for _, latch := range []byte{0, 1, 14, 15} {
		p := api.Pad{Latch: latch}
		for data := range 256 {
			if got := Step(p, api.Drive{Code: api.S1, Port: 2, Read: true, Pulse: true}, byte(data)); int(got.Latch) != data%16 {
				t.Errorf("OUT 2 of %02x: latch %d", data, got.Latch)
			}
			if got := Step(p, api.Drive{Code: api.S1, Port: 2, Write: true, Pulse: true}, byte(data)); got != p {
				t.Errorf("INP 2 of %02x: latch %d, was %d", data, got.Latch, latch)
			}
		}
	}
}

// P6.2: the drive's own byte is not the one on the bus.
func TestStepLooksAtTheBus(t *testing.T) {
	d := api.Drive{Port: 2, Read: true, Own: true, Data: 0x07}
	if got := Step(api.Pad{Latch: 1}, d, 0x4c); got.Latch != 12 {
		t.Errorf("latch %d", got.Latch)
	}
}

// P6.3: each key alone, all keys and none, both ways.
func TestKeysEdges(t *testing.T) {
	all := []int{0, 1, 2, 3, 4, 5, 6, 7, 8, 9, 10, 11, 12, 13, 14, 15}
	masks := []uint16{0x0001, 0x0002, 0x0004, 0x0008, 0x0010, 0x0020, 0x0040, 0x0080, 0x0100, 0x0200, 0x0400, 0x0800, 0x1000, 0x2000, 0x4000, 0x8000}
	for k, m := range masks {
		if got := Keys(m); !slices.Equal(got, all[k:k+1]) {
			t.Errorf("Keys(%04x) = %v", m, got)
		}
		wantMask(t, m, k)
	}
	if got := Keys(0xffff); !slices.Equal(got, all) {
		t.Errorf("Keys(ffff) = %v", got)
	}
	wantMask(t, 0xffff, all...)
	if got := Keys(0); len(got) != 0 {
		t.Errorf("Keys(0) = %v", got)
	}
	wantMask(t, 0)
	wantMask(t, 0, []int{}...)
}

// P6.3: a key that stands there twice, or often, is as once, wherever it stands.
func TestMaskTwice(t *testing.T) {
	for k := range 16 {
		one, _ := Mask(k)
		wantMask(t, one, k, k)
		wantMask(t, one, k, k, k)
		other := (k + 5) % 16
		both, _ := Mask(k, other)
		wantMask(t, both, k, other, k)
		wantMask(t, both, other, k, k)
		wantMask(t, both, k, other, k, other)
	}
	wantMask(t, 0x0004, slices.Repeat([]int{2}, 100000)...)
}

// P6.3: keys that are none, alone, first, in the middle and last among good ones.
func TestMaskWrong(t *testing.T) {
	for _, wrong := range []int{-1, -2, -16, -17, 16, 17, 31, 32, 64, 256, 65536, math.MinInt, math.MinInt + 3, math.MinInt32, math.MaxInt32, math.MaxInt} {
		wantNoMask(t, wrong)
		wantNoMask(t, wrong, wrong)
		wantNoMask(t, wrong, 3)
		wantNoMask(t, 3, wrong)
		wantNoMask(t, wrong, 0, 15, 7)
		wantNoMask(t, 0, wrong, 15)
		wantNoMask(t, 15, 7, 0, wrong)
		wantNoMask(t, append(Keys(0xffff), wrong)...)
	}
}

// P6.3, and what is handed in stays as it was, the room behind its end too.
func TestMaskLeavesKeys(t *testing.T) {
	room := []int{9, 2, 9, 0, -7, 99}
	wantMask(t, 0x0205, room[:4]...)
	wantNoMask(t, room[:5]...)
	if !slices.Equal(room, []int{9, 2, 9, 0, -7, 99}) {
		t.Errorf("the keys that were handed in are now %v", room)
	}
}

// P6.3: an answer of Keys is its own memory, spare room too.
func TestKeysAreNew(t *testing.T) {
	for _, mask := range []uint16{0, 1, 0x8001, 0x1234, 0xfffe, 0xffff} {
		first, second := Keys(mask), Keys(mask)
		kept := slices.Clone(second)
		for k := range first {
			first[k] = -1
		}
		first = first[:cap(first)]
		for k := range first {
			first[k] = -2
		}
		grown := append(second, 77)
		if other := append(Keys(mask), 88); !slices.Equal(second, kept) || grown[len(grown)-1] != 77 || other[len(other)-1] != 88 {
			t.Errorf("Keys(%04x): answers share memory", mask)
		}
		if again := Keys(mask); !slices.Equal(again, kept) {
			t.Errorf("Keys(%04x) = %v, was %v", mask, again, kept)
		}
	}
}

// P6.4: every mask there and back; the keys rise, each once, and are just those that are down.
func TestMaskOfKeys(t *testing.T) {
	for mask := range 65536 {
		keys := Keys(uint16(mask))
		wantMask(t, uint16(mask), keys...)
		var want []int
		for k := range 16 {
			if twinDown(k, uint16(mask)) {
				want = append(want, k)
			}
		}
		if !slices.Equal(keys, want) {
			t.Fatalf("Keys(%04x) = %v; want %v", mask, keys, want)
		}
	}
}

// P6.4: keys in any order, some of them often, come back rising, each once.
func TestKeysOfMask(t *testing.T) {
	d := uint64(6)
	for range 20000 {
		var keys []int
		for range d >> 33 % 24 {
			d = d*6364136223846793005 + 1442695040888963407
			keys = append(keys, int(d>>33%16))
		}
		d = d*6364136223846793005 + 1442695040888963407
		mask, e := Mask(keys...)
		want := slices.Compact(slices.Sorted(slices.Values(keys)))
		if got := Keys(mask); e != api.OK || !slices.Equal(got, want) {
			t.Fatalf("Keys of Mask(%v) = %v, %d", keys, got, e)
		}
	}
}

// P6.5: behind an OUT 2 Down tells of the byte's low four bits, whatever was latched, be it a latch that may not be.
func TestEachKeyCanBeLookedAt(t *testing.T) {
	out := api.Drive{Code: api.S1, Address: 0x0e00, Read: true, Port: 2, Pulse: true}
	for latch := range 256 {
		for data := range 256 {
			p := Step(api.Pad{Latch: byte(latch)}, out, byte(data))
			for _, mask := range []uint16{0, 0x0001, 0x8000, 0x5a3c, 0xa5c3, 0xffff} {
				if Down(p, mask) != twinDown(data%16, mask) {
					t.Fatalf("the latch %d, OUT 2 of %02x, keys %04x: %v", latch, data, mask, Down(p, mask))
				}
			}
		}
	}
}
