package snap

import (
	"bytes"
	"encoding/binary"
	"fmt"
	"hash/fnv"
	"slices"
	"testing"

	"vesper/api"
	"vesper/board"
)

// draw is a number below n, of a fixed row of numbers.
func draw(d *uint64, n int) int {
	*d = *d*6364136223846793005 + 1442695040888963407
	return int(*d >> 33 % uint64(n))
}

// mixed are so many bytes of all kinds.
func mixed(d *uint64, n int) []byte {
	b := make([]byte, n)
	for k := range b {
		b[k] = byte(draw(d, 256))
	}
	return b
}

// head is what stands ahead of RAM, as the chapter's table has it; package encoding/binary lays it out.
type head struct {
	Signature [4]byte
	R         [16]uint16
	D         byte
	DF        byte
	P         byte
	X         byte
	T         byte
	IE        byte
	Q         byte
	Op        byte
	B         byte
	Phase     byte
	Line      uint16
	Cycle     byte
	On        byte
	Got       byte
	Key       byte
	Latch     byte
	Cycles    uint64
	Size      uint16
}

const headSize = 63

// flagsAt are the places of DF, IE, Q, On and the latch.
var flagsAt = []int{37, 41, 42, 49, 52}

func digit(is bool) byte {
	if is {
		return 1
	}
	return 0
}

// twinSave is the bytes of a machine that may be, once more by the chapter's words.
func twinSave(m api.Board) []byte {
	var b bytes.Buffer
	binary.Write(&b, binary.LittleEndian, head{
		Signature: [4]byte{0x56, 0x53, 0x50, 0x31},
		R:         m.CPU.R, D: m.CPU.D, DF: digit(m.CPU.DF), P: m.CPU.P, X: m.CPU.X, T: m.CPU.T,
		IE: digit(m.CPU.IE), Q: digit(m.CPU.Q), Op: m.CPU.Op, B: m.CPU.B, Phase: byte(m.CPU.Phase),
		Line: uint16(m.Raster.Line), Cycle: byte(m.Raster.Cycle), On: digit(m.Raster.On), Got: byte(m.Raster.Got),
		Key: m.Pad.Latch, Latch: digit(m.Latch), Cycles: m.Cycles, Size: uint16(len(m.RAM)),
	})
	b.Write(m.RAM)
	b.Write(m.ROM)
	return summed(b.Bytes())
}

// twinLoad is Load, once more by the chapter's words.
func twinLoad(b []byte) (api.Board, api.Errno) {
	if len(b) < headSize {
		return api.Board{}, api.ErrSnapForm
	}
	var h head
	if _, err := binary.Decode(b, binary.LittleEndian, &h); err != nil {
		panic(err)
	}
	n := int(h.Size)
	if len(b) != 583+n || string(b[:4]) != "VSP1" {
		return api.Board{}, api.ErrSnapForm
	}
	for _, at := range flagsAt {
		if b[at] > 1 {
			return api.Board{}, api.ErrSnapForm
		}
	}
	if !bytes.Equal(b, summed(b[:575+n])) {
		return api.Board{}, api.ErrSnapSum
	}
	m := api.Board{
		CPU: api.CPU{
			R: h.R, D: h.D, DF: h.DF == 1, P: h.P, X: h.X, T: h.T,
			IE: h.IE == 1, Q: h.Q == 1, Op: h.Op, B: h.B, Phase: api.Phase(h.Phase),
		},
		Raster: api.Raster{Line: int(h.Line), Cycle: int(h.Cycle), On: h.On == 1, Got: int(h.Got)},
		Pad:    api.Pad{Latch: h.Key},
		Latch:  h.Latch == 1,
		Cycles: h.Cycles,
		RAM:    slices.Clone(b[63 : 63+n]),
		ROM:    slices.Clone(b[63+n : 575+n]),
	}
	if board.Check(m) != api.OK {
		return api.Board{}, api.ErrSnapState
	}
	return m, api.OK
}

// summed is bytes with their sum behind them, which the library knows as FNV-1a; what was handed in stays as it is.
func summed(b []byte) []byte {
	h := fnv.New64a()
	h.Write(b)
	return binary.LittleEndian.AppendUint64(slices.Clone(b), h.Sum64())
}

// mended is bytes with the right sum in the place of their last eight.
func mended(b []byte) []byte { return summed(b[:len(b)-8]) }

// with is other bytes, with one of them another one.
func with(b []byte, at int, one byte) []byte {
	b = slices.Clone(b)
	b[at] = one
	return b
}

// odd is a machine of which nothing is as it is at power on, somewhere in a long branch.
func odd() api.Board {
	d := uint64(21)
	return api.Board{
		CPU: api.CPU{
			R: [16]uint16{0x0123, 0x4567, 0x89ab, 0xcdef, 0xfedc, 0xba98, 0x7654, 0x3210, 0x0f1e, 0x2d3c, 0x4b5a, 0x6978, 0x8796, 0xa5b4, 0xc3d2, 0xe1f0},
			D: 0x5a, DF: true, P: 3, X: 12, T: 0x91, Q: true, Op: 0xc3, B: 0x77, Phase: api.Second,
		},
		Raster: api.Raster{Line: 200, Cycle: 11, On: true, Got: 6},
		Pad:    api.Pad{Latch: 11},
		RAM:    mixed(&d, 4096),
		ROM:    mixed(&d, 512),
		Cycles: 0x0123456789abcdef,
	}
}

// changed is the odd machine with something done to it.
func changed(do func(m *api.Board)) api.Board {
	m := odd()
	do(&m)
	return m
}

// power is a machine of so many bytes at power on.
func power(t *testing.T, ram int) api.Board {
	t.Helper()
	b, e := board.New(ram, make([]byte, 512), nil)
	if e != api.OK {
		t.Fatalf("board.New(%d, ..) = %d", ram, e)
	}
	return b.State()
}

// anyMachine is one that may be, in any phase, anywhere on the screen.
func anyMachine(d *uint64) api.Board {
	m := api.Board{
		CPU: api.CPU{
			D: byte(draw(d, 256)), DF: draw(d, 2) == 0, P: byte(draw(d, 16)), X: byte(draw(d, 16)), T: byte(draw(d, 256)),
			IE: draw(d, 2) == 0, Q: draw(d, 2) == 0, Op: byte(draw(d, 256)), Phase: api.Phase(1 + draw(d, 8)),
		},
		Raster: api.Raster{Line: draw(d, 262), Cycle: draw(d, 14), On: draw(d, 2) == 0},
		Pad:    api.Pad{Latch: byte(draw(d, 16))},
		Latch:  draw(d, 2) == 0,
		RAM:    mixed(d, 2048*(1+draw(d, 16))),
		ROM:    mixed(d, 512),
		Cycles: binary.LittleEndian.Uint64(mixed(d, 8)),
	}
	for k := range m.CPU.R {
		m.CPU.R[k] = uint16(draw(d, 65536))
	}
	switch m.CPU.Phase {
	case api.Begin, api.Idle:
		m.CPU.Op = 0
	case api.Second:
		m.CPU.Op, m.CPU.B = 0xc0|m.CPU.Op&15, byte(draw(d, 256))
	}
	if m.Raster.Line >= 80 && m.Raster.Line <= 207 && m.Raster.Cycle > 2 {
		m.Raster.Got = draw(d, min(8, m.Raster.Cycle-2)+1)
	}
	return m
}

// copied is a machine that shares no bytes with another one.
func copied(m api.Board) api.Board {
	m.RAM, m.ROM = slices.Clone(m.RAM), slices.Clone(m.ROM)
	return m
}

// same tells whether two machines stand alike; nil and empty lists are the same.
func same(a, b api.Board) bool {
	return a.CPU == b.CPU && a.Raster == b.Raster && a.Pad == b.Pad && a.Latch == b.Latch && a.Cycles == b.Cycles &&
		bytes.Equal(a.RAM, b.RAM) && bytes.Equal(a.ROM, b.ROM)
}

// brief is a machine without its bytes, for what a test tells.
func brief(m api.Board) string {
	return fmt.Sprintf("%v %v pad %d latch %v, %d and %d bytes, %d cycles", m.CPU, m.Raster, m.Pad.Latch, m.Latch, len(m.RAM), len(m.ROM), m.Cycles)
}

// wantLoad holds Load of bytes against the twin, and tells what came.
func wantLoad(t *testing.T, what string, b []byte) api.Errno {
	t.Helper()
	got, e := Load(b)
	want, wantE := twinLoad(b)
	if e != wantE || !same(got, want) {
		t.Fatalf("%s: Load = %s, %d; want %s, %d", what, brief(got), e, brief(want), wantE)
	}
	return e
}

// wantRefused: Load of these bytes is that error, and nothing beside it.
func wantRefused(t *testing.T, what string, b []byte, want api.Errno) {
	t.Helper()
	if e := wantLoad(t, what, b); e != want {
		t.Fatalf("%s: Load = %d; want %d", what, e, want)
	}
}

// mustSave holds Save of a machine that may be against the twin.
func mustSave(t *testing.T, m api.Board) []byte {
	t.Helper()
	got, e := Save(m)
	if e != api.OK {
		t.Fatalf("Save of %s = %d", brief(m), e)
	}
	if want := twinSave(m); !bytes.Equal(got, want) {
		at := 0
		for at < min(len(got), len(want)) && got[at] == want[at] {
			at++
		}
		t.Fatalf("Save of %s: %d bytes, another one at %d; want %d bytes", brief(m), len(got), at, len(want))
	}
	return got
}

func mustLoad(t *testing.T, b []byte) api.Board {
	t.Helper()
	m, e := Load(b)
	if e != api.OK {
		t.Fatalf("Load of %d bytes, %x .. = %d", len(b), b[:min(len(b), headSize)], e)
	}
	return m
}
