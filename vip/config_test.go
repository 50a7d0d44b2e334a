package vip

import (
	"bytes"
	"fmt"
	"math"
	"testing"

	"vesper/api"
	"vesper/board"
	"vesper/frame"
	"vesper/inter"
	"vesper/rom"
	"vesper/sprite"
)

func wantNoVIP(t *testing.T, what string, c api.Config) {
	t.Helper()
	if v, e := New(c); v != nil || e != api.ErrVIPConfig {
		t.Errorf("%s: New = %v, %d; want ErrVIPConfig", what, v, e)
	}
}

// wantPower: New of what may be is a machine as at power on, by DOC.md's words, and as board.New makes it.
func wantPower(t *testing.T, c api.Config) {
	t.Helper()
	want := api.Board{
		CPU:   api.CPU{IE: true, Phase: api.Begin},
		Latch: true,
		RAM:   append(bytes.Clone(c.Image), make([]byte, c.RAM-len(c.Image))...),
		ROM:   c.ROM,
	}
	v := mustNew(t, c)
	wantStand(t, "at power on", v, want)
	b, _ := board.New(c.RAM, c.ROM, c.Image)
	wantStand(t, "beside board.New's", v, b.State())
}

// P22.1: each number of bytes of RAM up to some more than the greatest one, and numbers far off.
func TestNewSizes(t *testing.T) {
	c := shining()
	for c.RAM = -5000; c.RAM <= 40000; c.RAM++ {
		if c.RAM >= 2048 && c.RAM <= 32768 && c.RAM%2048 == 0 {
			wantPower(t, c)
		} else {
			wantNoVIP(t, fmt.Sprintf("%d bytes of RAM", c.RAM), c)
		}
	}
	for _, n := range []int{65536, 65536 + 2048, 1 << 32, 1<<32 + 2048, 1<<48 + 4096, math.MaxInt, math.MinInt, math.MinInt + 2048, -1 << 32, -32768} {
		c.RAM = n
		wantNoVIP(t, fmt.Sprintf("%d bytes of RAM", n), c)
	}
}

// P22.1: each length of ROM up to twice its own.
func TestNewROM(t *testing.T) {
	d := uint64(221)
	whole := mixed(&d, 1024)
	for n := range 1025 {
		c := api.Config{RAM: 2048, ROM: whole[:n], Image: []byte{1, 2, 3}}
		if n == 512 {
			wantPower(t, c)
		} else {
			wantNoVIP(t, fmt.Sprintf("%d bytes of ROM", n), c)
		}
	}
	wantNoVIP(t, "no ROM", api.Config{RAM: 2048})
	wantNoVIP(t, "an empty ROM", api.Config{RAM: 2048, ROM: []byte{}})
	wantNoVIP(t, "a ROM as long as RAM", api.Config{RAM: 2048, ROM: make([]byte, 2048)})
	wantNoVIP(t, "a ROM that is 512 by sixteen bits", api.Config{RAM: 2048, ROM: make([]byte, 65536+512)})
	wantNoVIP(t, "noughts", api.Config{})
}

// P22.1: images of no byte up to as many as RAM has, and of one more.
func TestNewImages(t *testing.T) {
	d := uint64(222)
	firm := mixed(&d, 512)
	for size := 2048; size <= 32768; size += 2048 {
		for _, n := range []int{0, 1, 2, 511, 512, 513, 2047, 2048, size / 2, size - 1, size} {
			wantPower(t, api.Config{RAM: size, ROM: firm, Image: mixed(&d, n)})
		}
		wantPower(t, api.Config{RAM: size, ROM: firm, Image: []byte{}})
		wantPower(t, api.Config{RAM: size, ROM: firm})
		for _, n := range []int{size + 1, size + 2, size + 2048, 2 * size, 65536, 65537, 1 << 20} {
			if n > size {
				wantNoVIP(t, fmt.Sprintf("an image of %d bytes in %d", n, size), api.Config{RAM: size, ROM: firm, Image: make([]byte, n)})
			}
		}
	}
}

// P22.1: of several faults the answer is the one error there is.
func TestNewOfManyFaults(t *testing.T) {
	firm := make([]byte, 513)
	for _, size := range []int{0, 2047, 2048, 2049, -1, 34816} {
		for _, n := range []int{0, 511, 512, 513} {
			for _, image := range []int{0, 2048, 2049, 40000} {
				c := api.Config{RAM: size, ROM: firm[:n], Image: make([]byte, image)}
				if size == 2048 && n == 512 && image <= 2048 {
					wantPower(t, c)
				} else {
					wantNoVIP(t, fmt.Sprintf("RAM %d, ROM %d, image %d", size, n, image), c)
				}
			}
		}
	}
}

// wantGame: the configuration with this program, byte by byte.
func wantGame(t *testing.T, program []byte) api.Config {
	t.Helper()
	c, e := Game(program)
	if e != api.OK || c.RAM != 4096 || len(c.ROM) != 512 || len(c.Image) != 512+len(program) {
		t.Fatalf("Game of %d bytes: RAM %d, ROM %d, image %d, %d", len(program), c.RAM, len(c.ROM), len(c.Image), e)
	}
	if !bytes.Equal(c.ROM, rom.Bytes()) {
		t.Fatal("Game: another ROM")
	}
	if !bytes.Equal(c.Image[:512], inter.Bytes()) || !bytes.Equal(c.Image[512:], program) {
		t.Fatalf("Game of %d bytes: another image", len(program))
	}
	return c
}

// P22.2: programs of no byte up to the longest one, of which each makes a machine; and longer ones.
func TestGameSizes(t *testing.T) {
	d := uint64(223)
	whole := mixed(&d, 9000)
	lengths := []int{0, 1, 2, 3, 255, 256, 257, 511, 512, 513, 3230, 3231, 3232}
	for n := 0; n < 3232; n += 101 {
		lengths = append(lengths, n)
	}
	for _, n := range lengths {
		c := wantGame(t, whole[:n])
		wantPower(t, c)
		if m := mustNew(t, c).State(); !bytes.Equal(m.RAM[0x200:0x200+n], whole[:n]) || !bytes.Equal(m.RAM[0x200+n:], make([]byte, 4096-512-n)) {
			t.Errorf("%d bytes do not lie at 0200", n)
		}
	}
	wantGame(t, nil)
	wantGame(t, []byte{})
	for _, n := range []int{3233, 3234, 3240, 3584, 3585, 4096, 4097, 9000} {
		if c, e := Game(whole[:n]); e != api.ErrVIPProgram || !sameConfig(c, api.Config{}) {
			t.Errorf("Game of %d bytes: RAM %d, %d", n, c.RAM, e)
		}
	}
	if c, e := Game(make([]byte, 65536+3232)); e != api.ErrVIPProgram || !sameConfig(c, api.Config{}) {
		t.Errorf("Game of very many bytes: %d", e)
	}
}

// gameVIP is a machine that plays a CHIP-8 program.
func gameVIP(t *testing.T, program ...byte) *VIP {
	t.Helper()
	return mustNew(t, wantGame(t, program))
}

// P22.2: DOC.md's example 4 counts to nine in the machine that is made so.
func TestGameCounts(t *testing.T) {
	v := gameVIP(t, 0x60, 0x05, 0x70, 0x01, 0x30, 0x09, 0x12, 0x02, 0x12, 0x08)
	if _, e := v.Play([]api.Span{{Cycles: 60000}}); e != api.OK {
		t.Fatal(e)
	}
	m := v.State()
	if v0 := m.RAM[0x0ef0]; v0 != 9 || m.CPU.R[5] < 0x208 || m.CPU.R[5] > 0x20a || m.Latch {
		t.Errorf("V0 %d, R5 %04x, latch %v", v0, m.CPU.R[5], m.Latch)
	}
}

// P22.2, P22.3: DOC.md's example 5, the digit 7 at 4, 8, is what the frames of the script show, each row in four lines.
func TestGameShows(t *testing.T) {
	v := gameVIP(t, 0x60, 0x07, 0x61, 0x04, 0x62, 0x08, 0xf0, 0x29, 0xd1, 0x25, 0x12, 0x0a)
	f, e := v.Play([]api.Span{{Cycles: 90000}})
	if e != api.OK || len(f.Frames) != 90000/whole {
		t.Fatalf("%s, %d", briefFilm(f), e)
	}
	rows := sprite.Digit(7)
	want, _, _ := sprite.Draw(make([]byte, 256), 4, 8, rows[:])
	shown := 0
	for k, one := range f.Frames {
		if one.From != k*whole {
			t.Errorf("frame %d: From %d", k, one.From)
		}
		if page, is := frame.Page(one); is && bytes.Equal(page, want) {
			shown++
		}
	}
	if page, is := frame.Page(f.Frames[len(f.Frames)-1]); !is || !bytes.Equal(page, want) || shown < 10 {
		t.Errorf("the last frame is no page, or another one; %d frames show the 7", shown)
	}
}
