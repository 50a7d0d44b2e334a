package plain

import (
	"math"
	"slices"
	"testing"

	"vesper/api"
	"vesper/asm"
	"vesper/code"
)

// wantUnswept: Sweep refuses bytes at that address.
func wantUnswept(t *testing.T, b []byte, at int) {
	t.Helper()
	if l, e := Sweep(b, at); len(l) != 0 || e != api.ErrArg {
		t.Errorf("Sweep of %d bytes at %d: %d items, %d", len(b), at, len(l), e)
	}
}

// wantSweepBack: Sweep is as the twin has it, and assembled it has just these bytes (P15.5).
func wantSweepBack(t *testing.T, b []byte, at int) {
	t.Helper()
	l, e := Sweep(b, at)
	if tell(l) != tell(twinSweep(b, at)) || e != api.OK {
		t.Fatalf("Sweep(%.100x, %d): %.300q, %d", b, at, tell(l), e)
	}
	if len(l) > 4096 {
		return
	}
	o, e, n := asm.Assemble(l)
	if e != api.OK || n != 0 || len(o.Labels) != 0 {
		t.Fatalf("Sweep(%.100x, %d) is assembled as %.300s, %d, %d", b, at, tellObject(o), e, n)
	}
	if len(b) == 0 {
		if len(o.Blocks) != 0 {
			t.Fatalf("Sweep of nothing is assembled as %.300s", tellObject(o))
		}
		return
	}
	if len(o.Blocks) != 1 || o.Blocks[0].At != at || !slices.Equal(o.Blocks[0].Bytes, b) {
		t.Fatalf("Sweep(%.100x, %d) is assembled as %.300s", b, at, tellObject(o))
	}
}

// P15.2: which addresses there are, and how many bytes lie up to their end.
func TestSweepBounds(t *testing.T) {
	for _, at := range []int{-1, -2, 65536, 65537, -65536, 131072, math.MinInt, math.MaxInt, math.MinInt32, math.MaxInt32, math.MaxInt - 1} {
		for _, size := range []int{0, 1, 2, 3, 65536} {
			wantUnswept(t, make([]byte, size), at)
		}
		wantUnswept(t, nil, at)
	}
	for _, x := range []struct{ size, at int }{{0, 0}, {0, 1}, {0, 65535}, {1, 65535}, {1, 0}, {2, 65534}, {65536, 0}, {65535, 1}, {65535, 0}, {3, 65533}, {100, 65436}} {
		wantSweepBack(t, make([]byte, x.size), x.at)
		wantSweepBack(t, slices.Repeat([]byte{0xf8}, x.size), x.at)
		wantSweepBack(t, slices.Repeat([]byte{0xc0}, x.size), x.at)
	}
	for _, x := range []struct{ size, at int }{{2, 65535}, {3, 65534}, {65537, 0}, {65536, 1}, {65536, 65535}, {101, 65436}, {70000, 0}} {
		wantUnswept(t, make([]byte, x.size), x.at)
		wantUnswept(t, slices.Repeat([]byte{0xc0}, x.size), x.at)
	}
	wantSwept(t, "", 0, " at 0000\n")
	wantSwept(t, "", 0xffff, " at ffff\n")
	wantSwept(t, "\xc4", 0xffff, " at ffff\n NOP\n")
	wantSwept(t, "\xf8", 0xffff, " at ffff\n data f8\n")
	wantSwept(t, "\xc0\x01", 0xfffe, " at fffe\n data c0 01\n")
	wantSwept(t, "\xc0\x01\x02", 0xfffd, " at fffd\n LBR 0102\n")
}

// P15.2: bytes that end within an instruction of two and of three, at once and behind others.
func TestSweepEnds(t *testing.T) {
	wantSwept(t, "\xc4\xf8\x05\xc0\x12\x34\x30\x07", 0x10, " at 0010\n NOP\n LDI 05\n LBR 1234\n BR 07\n")
	wantSwept(t, "\xc4\xf8", 0x10, " at 0010\n NOP\n data f8\n")
	wantSwept(t, "\xc4\xc0", 0x10, " at 0010\n NOP\n data c0\n")
	wantSwept(t, "\xc4\xc0\xc4", 0x10, " at 0010\n NOP\n data c0 c4\n")
	wantSwept(t, "\xf8\xf8\xf8", 0, " at 0000\n LDI f8\n data f8\n")
	wantSwept(t, "\xc0\xc0\xc0\xc0\xc0", 0, " at 0000\n LBR c0c0\n data c0 c0\n")
	for op := range 256 {
		for size := 1; size <= 3; size++ {
			b := []byte{byte(op), 0xc0, 0xf8}[:size]
			l, e := Sweep(b, 3)
			whole := size >= code.Info(byte(op)).Bytes
			if e != api.OK || (l[1].Kind == api.ItemCode) != whole {
				t.Errorf("Sweep of %x: %q, %d", b, tell(l), e)
			}
			wantSweepBack(t, b, 3)
			wantSweepBack(t, append([]byte{0xc4, 0x30, 0x00}, b...), 0xfe)
			wantSweepBack(t, append(counted(600), b...), 0)
		}
	}
}

// P15.2, P15.5: any bytes, anywhere; up to the greatest number of items that are assembled.
func TestSweepBack(t *testing.T) {
	d := uint64(152)
	for n := range 800 {
		b := make([]byte, draw(&d, 1+n))
		for k := range b {
			b[k] = byte(draw(&d, 256))
		}
		wantSweepBack(t, b, draw(&d, 65537-len(b)))
	}
	for _, size := range []int{4094, 4095, 4096, 4097} {
		wantSweepBack(t, make([]byte, size), 0x200)
		wantSweepBack(t, slices.Repeat([]byte{0xc1}, 3*size), 0x200)
	}
	if l, _ := Sweep(make([]byte, 4095), 0); len(l) != 4096 {
		t.Errorf("%d items", len(l))
	}
}
