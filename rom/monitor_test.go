package rom

import (
	"bytes"
	"fmt"
	"testing"

	"vesper/api"
	"vesper/frame"
)

// abreast runs a test for each number, several at a time.
func abreast(t *testing.T, count int, test func(t *testing.T, n int)) {
	for n := range count {
		t.Run(fmt.Sprint(n), func(t *testing.T) {
			t.Parallel()
			test(t, n)
		})
	}
}

// asked is a machine whose monitor wants its first digit, with its twin.
func asked(t *testing.T, ram int, image []byte) (*rig, *twin) {
	t.Helper()
	r := called(t, ram, image, firstCycles)
	r.hold(twoFrames, 0)
	return r, newTwin(ram, image)
}

// pressed is a key that counts, right behind what was ahead of it.
func pressed(r *rig, w *twin, k int) {
	r.hold(twoFrames, 1<<k)
	r.hold(twoFrames, 0)
	w.count(k)
}

// wantSettled: within the time that it has, the page is what the twin says.
func wantSettled(t *testing.T, what string, r *rig, w *twin) {
	t.Helper()
	r.hold(settled, 0)
	wantShown(t, what, r, w)
	if r.q {
		t.Fatalf("%s: Q was high", what)
	}
}

// P19.5: it waits till C is up, however long that is, and whatever other keys do; nothing is shown as long, then the page, wiped, with the digits.
func TestWaitsForC(t *testing.T) {
	abreast(t, 40, func(t *testing.T, n int) {
		d := uint64(20 + n)
		size := sizes()[n%16]
		image := images(&d, size)[n%4]
		down := firstCycles + draw(&d, 4*frameCycles)
		if n == 0 {
			down = firstCycles
		}
		r := power(t, size, image)
		for k := range down {
			keys := uint16(0)
			if n%2 == 1 && k < down-twoFrames {
				keys = uint16(draw(&d, 65536))
			}
			r.tick(keys | keyC)
		}
		if r.State().Raster.On {
			t.Error("the chip is on while C is down")
		}
		w := newTwin(size, image)
		r.hold(twoFrames, 0)
		if s := r.State(); !s.Raster.On || s.Latch || s.CPU.R[11]>>8 != uint16(size/256-1) {
			t.Errorf("the chip on %v, the latch set %v, RB %04x", s.Raster.On, s.Latch, s.CPU.R[11])
		}
		wantSettled(t, "C is up", r, w)
		typed(t, "and a key", r, w, n%16)
	})
}

// P19.5: the key that goes down as C goes up counts, at whatever moment of a frame, of the monitor's work that is.
func TestFirstKeyBehindC(t *testing.T) {
	abreast(t, 120, func(t *testing.T, n int) {
		d := uint64(300 + n)
		r := power(t, 2048, nil)
		r.hold(draw(&d, frameCycles), 0xffff)
		r.reset()
		r.hold(firstCycles+draw(&d, 2)*draw(&d, frameCycles), keyC)
		k := n % 15
		if k >= 12 {
			k++
		}
		w := newTwin(2048, nil)
		pressed(r, w, k)
		wantSettled(t, fmt.Sprintf("the key %x", k), r, w)
	})
}

// P19.5: frames are the last page, each row in four lines, from the first one on; Q stays low.
func TestMonitorShowsThePage(t *testing.T) {
	abreast(t, 16, func(t *testing.T, n int) {
		d := uint64(500 + n)
		size := sizes()[n]
		image := mixed(&d, size)
		r := called(t, size, image, firstCycles+draw(&d, frameCycles))
		w := newTwin(size, image)
		raster := r.State().Raster
		var l []api.Record
		for range twoFrames + settled + 5*frameCycles {
			l = append(l, r.tick(0))
		}
		wantShown(t, "no key", r, w)
		frames, e := frame.Of(raster, l)
		if e != api.OK || len(frames) < 5 {
			t.Fatalf("%d frames, %d", len(frames), e)
		}
		whole := 0
		for k, f := range frames {
			got, is := frame.Page(f)
			late := f.From >= twoFrames+settled
			switch {
			case late && (!is || !bytes.Equal(got, w.page())):
				t.Errorf("the frame %d of %d is not the page", k, len(frames))
			case !f.Short && (!is || !drawn(got, w.page())):
				t.Errorf("the frame %d of %d is whole, but does not show the page", k, len(frames))
			case late:
				whole++
			}
		}
		if whole < 4 || r.q {
			t.Errorf("%d frames of the page, Q was high: %v", whole, r.q)
		}
	})
}

// P19.5: at whatever moment of a frame C goes up, a frame that is whole shows the page; of one that is not nothing is to be seen.
func TestScreenComesOn(t *testing.T) {
	image := bytes.Repeat([]byte{0xff}, 2048)
	abreast(t, 131, func(t *testing.T, n int) {
		r := power(t, 2048, image)
		var l []api.Record
		for k := range 5 * frameCycles {
			keys := uint16(keyC)
			if k >= firstCycles+28*n+n%9 {
				keys = 0
			}
			l = append(l, r.tick(keys))
		}
		frames, e := frame.Of(api.Raster{}, l)
		if e != api.OK || len(frames) != 5 || frames[4].Short {
			t.Fatalf("%d frames, %d", len(frames), e)
		}
		for k, f := range frames {
			page, is := frame.Page(f)
			if !f.Short && (!is || !drawn(page, newTwin(2048, image).page())) {
				t.Errorf("the frame %d does not show the page", k)
			}
			if f.Short && bytes.ContainsFunc(bytes.Join(f.Rows, nil), func(r rune) bool { return r != 0 }) {
				t.Errorf("the frame %d is not whole, but shows something", k)
			}
		}
	})
}

// drawn: a page is wiped, and has of another one what has been drawn so far.
func drawn(page, of []byte) bool {
	for k, b := range page {
		if b != 0 && b != of[k] {
			return false
		}
	}
	return true
}

// P19.5: from behind a Reset, however the machine stood.
func TestMonitorBehindReset(t *testing.T) {
	abreast(t, 32, func(t *testing.T, n int) {
		d := uint64(550 + n)
		size := sizes()[n%16]
		s := anyMachine(&d, size, api.Fetch+api.Phase(n%8))
		r, w := from(t, s), newTwin(size, s.RAM)
		r.reset()
		r.hold(firstCycles+draw(&d, frameCycles), keyC)
		r.hold(twoFrames, 0)
		wantSettled(t, "C is up", r, w)
		for k := range 5 {
			pressed(r, w, draw(&d, 16)*(4-k)/4)
		}
		wantSettled(t, "an address and a command", r, w)
		typed(t, "a byte", r, w, draw(&d, 16), draw(&d, 16))
	})
}

// digitsOf are the four keys of an address.
func digitsOf(a int) []int { return []int{a >> 12 & 15, a >> 8 & 15, a >> 4 & 15, a & 15} }

// P19.5: each digit at each of the four places; behind the fourth one they are no digits any more.
func TestFourDigits(t *testing.T) {
	abreast(t, 16, func(t *testing.T, n int) {
		d := uint64(600 + n)
		r, w := asked(t, 4096, mixed(&d, 4096))
		typed(t, "digits", r, w, n, (n+5)%16, (n+10)%16, (n+15)%16, (n+1)%9+1, 15-n%5)
		if want := uint16(n<<12 | (n+5)%16<<8 | (n+10)%16<<4 | (n+15)%16); w.a != want {
			t.Errorf("A %04x, wanted %04x", w.a, want)
		}
	})
}

// P19.5: as a command each key but 0 and A does nothing; then A shows bytes, whatever the key; then 0 is a key like others.
func TestCommands(t *testing.T) {
	abreast(t, 2, func(t *testing.T, n int) {
		d := uint64(700 + n)
		r, w := asked(t, 2048, mixed(&d, 2048))
		typed(t, "digits", r, w, digitsOf(0x00fd)...)
		typed(t, "no commands", r, w, 1, 2, 3, 4, 5, 6, 7, 8, 9, 11, 12, 13, 14, 15)
		if w.a != 0xfd || w.state != wantsCommand {
			t.Fatalf("A %04x, state %d", w.a, w.state)
		}
		if n == 0 {
			typed(t, "A, then any", r, w, 10, 0, 10, 1, 12, 15)
		} else {
			typed(t, "0, then any", r, w, 0, 0, 10, 10, 0, 15)
		}
	})
}

// P19.5: every key as a byte's first digit, and as its second one.
func TestBytesWritten(t *testing.T) {
	abreast(t, 4, func(t *testing.T, n int) {
		d := uint64(800 + n)
		r, w := asked(t, 4096, mixed(&d, 4096))
		typed(t, "digits", r, w, append(digitsOf(0x01fa), 0)...)
		for k := range 4 {
			typed(t, "bytes", r, w, 4*n+k, 15-(4*n+k), (4*k+n)%16, 4*n+k)
		}
		if w.a != 0x202 {
			t.Errorf("A %04x", w.a)
		}
	})
}

// P19.5: addresses in RAM, in ROM, and where nothing lies, shown and written; A goes on from FFFF to 0000, and from each of these to the next.
func TestAddresses(t *testing.T) {
	rams := []int{2048, 4096, 18432, 32768}
	abreast(t, 4*13*2, func(t *testing.T, n int) {
		d := uint64(900 + n)
		size, command := rams[n%4], 10*(n/4%2)
		at := []int{
			0, 0xff, 0x234, size - 514, size - 513, size - 512, size - 256, size - 1,
			size, 0x7fff, 0x8001, 0x81ff, 0xffff,
		}[n/8]
		r, w := asked(t, size, mixed(&d, size))
		keys := append(digitsOf(at), command)
		for range 4 {
			keys = append(keys, draw(&d, 16))
		}
		typed(t, fmt.Sprintf("%d bytes, address %04x, command %d", size, at, command), r, w, keys...)
	})
}

// P19.5: keys of all kinds, in machines of every size.
func TestManyKeys(t *testing.T) {
	abreast(t, 16, func(t *testing.T, n int) {
		d := uint64(1100 + n)
		size := sizes()[n]
		r, w := asked(t, size, mixed(&d, size))
		for range 2 {
			at := draw(&d, size-lastPages-16)
			typed(t, "an address", r, w, digitsOf(at)...)
			for range 8 {
				k := draw(&d, 16)
				if draw(&d, 3) == 0 {
					k = 10 * draw(&d, 2)
				}
				pressed(r, w, k)
				r.hold(draw(&d, 2)*draw(&d, frameCycles), 0)
			}
			wantSettled(t, "keys of all kinds", r, w)
			r.reset()
			r.hold(firstCycles, keyC)
			r.hold(twoFrames, 0)
			w = w.begun()
		}
	})
}
