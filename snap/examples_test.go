package snap

import (
	"bytes"
	"slices"
	"testing"

	"vesper/api"
)

// P21.1: the chapter's row of Save: all bytes of a machine at power on.
func TestSaveExamples(t *testing.T) {
	b := mustSave(t, power(t, 2048))
	if len(b) != 2631 {
		t.Fatalf("%d bytes", len(b))
	}
	want := make([]byte, 2623)
	copy(want, []byte{0x56, 0x53, 0x50, 0x31})
	want[41], want[45], want[52], want[61], want[62] = 1, 5, 1, 0x00, 0x08
	if !bytes.Equal(b[:2623], want) {
		t.Errorf("other bytes: %x ..", b[:headSize])
	}
	m := power(t, 2048)
	m.Pad.Latch = 16
	if b, e := Save(m); len(b) != 0 || e != api.ErrSnapState {
		t.Errorf("the latch of the pad at 16: %d bytes, %d", len(b), e)
	}
}

// P21.2: the chapter's rows of Load.
func TestLoadExamples(t *testing.T) {
	b := mustSave(t, power(t, 2048))
	if m := mustLoad(t, b); !same(m, power(t, 2048)) {
		t.Errorf("Load of it: %s", brief(m))
	}
	wantRefused(t, "without the last byte", b[:len(b)-1], api.ErrSnapForm)
	wantRefused(t, "nothing", nil, api.ErrSnapForm)
	for other := 1; other < 256; other++ {
		wantRefused(t, "another byte at 100", with(b, 100, byte(other)), api.ErrSnapSum)
	}
	two := with(b, 41, 2)
	wantRefused(t, "2 at 41", two, api.ErrSnapForm)
	wantRefused(t, "2 at 41, the right sum", mended(two), api.ErrSnapForm)
	for k := range 8 {
		wantRefused(t, "2 at 41, whatever sum", with(two, len(two)-1-k, 0xee), api.ErrSnapForm)
	}
}

// DOC.md's example 9: a machine of 4096 bytes is kept as 4679.
func TestKeptExample(t *testing.T) {
	if b := mustSave(t, power(t, 4096)); len(b) != 4679 {
		t.Errorf("%d bytes", len(b))
	}
}

// The chapter's words of the sum, with the numbers that are known of it.
func TestSum(t *testing.T) {
	for _, x := range []struct {
		text string
		want uint64
	}{
		{"", 14695981039346656037},
		{"a", 0xaf63dc4c8601ec8c},
		{"foobar", 0x85944171f73967e8},
	} {
		if got := sum([]byte(x.text)); got != x.want {
			t.Errorf("sum of %q = %x; want %x", x.text, got, x.want)
		}
	}
	if sum(nil) != sum([]byte{}) {
		t.Error("nil and empty are not the same")
	}
	for one := range 256 {
		want := uint64(14695981039346656037)
		want = want&^0xff | (want&0xff ^ uint64(one)) // the lowest eight bits are turned by the byte
		want *= 1099511628211
		if got := sum([]byte{byte(one)}); got != want {
			t.Errorf("sum of %02x = %x; want %x", one, got, want)
		}
	}
	for _, m := range []api.Board{power(t, 2048), power(t, 32768), odd()} {
		ahead := twinSave(m)
		ahead = ahead[:len(ahead)-8]
		want := summed(ahead)[len(ahead):]
		if got := appendNumber(nil, sum(ahead)); !slices.Equal(got, want) {
			t.Errorf("sum of a machine of %d bytes: %x; want %x", len(ahead), got, want)
		}
		if got := mustSave(t, m); !slices.Equal(got[len(ahead):], want) {
			t.Errorf("the last bytes of a machine: %x; want %x", got[len(ahead):], want)
		}
	}
}
