package snap

import (
	"fmt"
	"testing"

	"vesper/api"
	"vesper/board"
	"vesper/inter"
	"vesper/rom"
)

// anySpan is one cycle of the outer world; lines that are asked for, and modes other than Run, are not rare.
func anySpan(d *uint64) api.Span {
	one := func(of int) bool { return draw(d, of) == 0 }
	return api.Span{
		Cycles: 1, Keys: uint16(draw(d, 65536)), Tape: one(2), Flag: one(2), Bus: byte(draw(d, 256)),
		DMAIn: one(6), DMAOut: one(6), Interrupt: one(4), Clear: one(15), Wait: one(8),
	}
}

// instruction is any byte, or an instruction that moves much: a load, a branch, a port, a long one.
func instruction(d *uint64) byte {
	often := []byte{0xf8, 0xa0, 0xb3, 0x30, 0x34, 0x36, 0x3d, 0x5f, 0x73, 0x61, 0x62, 0x64, 0x69, 0x7a, 0x7b, 0x70, 0xd3, 0xe0, 0x00, 0xc0, 0xc2, 0xcd, 0xc4}
	if draw(d, 2) == 0 {
		return byte(draw(d, 256))
	}
	return often[draw(d, len(often))]
}

// lively is a machine that may be, whose registers point into its memory and whose memory is instructions.
func lively(d *uint64) api.Board {
	m := anyMachine(d)
	m.RAM = m.RAM[:2048]
	m.Raster = api.Raster{Line: 74 + draw(d, 8), Cycle: draw(d, 2), On: draw(d, 4) > 0}
	for k := range m.RAM {
		m.RAM[k] = instruction(d)
	}
	for k := range m.ROM {
		m.ROM[k] = instruction(d)
	}
	for k := range m.CPU.R {
		m.CPU.R[k] = uint16(draw(d, 2100))
		if draw(d, 8) == 0 {
			m.CPU.R[k] = 0x8000 + uint16(draw(d, 520))
		}
	}
	return m
}

// kept is the machine that was saved and loaded.
func kept(t *testing.T, b *board.Board) *board.Board {
	t.Helper()
	saved, e := Save(b.State())
	if e != api.OK {
		t.Fatalf("Save of %s = %d", brief(b.State()), e)
	}
	m := mustLoad(t, saved)
	other, e := board.From(m)
	if e != api.OK {
		t.Fatalf("From of %s = %d", brief(m), e)
	}
	return other
}

func mustFrom(t *testing.T, m api.Board) *board.Board {
	t.Helper()
	b, e := board.From(m)
	if e != api.OK {
		t.Fatalf("From of %s = %d", brief(m), e)
	}
	return b
}

// onAlike: two machines go on alike, record by record, and stand alike then.
func onAlike(t *testing.T, what string, a, b *board.Board, l []api.Span) {
	t.Helper()
	for k, s := range l {
		for n := range s.Cycles {
			if x, y := a.Step(s), b.Step(s); x != y {
				t.Fatalf("%s: span %d, cycle %d: %v, and the one that was kept: %v", what, k, n, x, y)
			}
		}
	}
	if x, y := a.State(), b.State(); !same(x, y) {
		t.Fatalf("%s: %s, and the one that was kept: %s", what, brief(x), brief(y))
	}
}

// P21.4, T6: at each cycle of any machine with any script, in each phase and each mode: the one that was saved and loaded goes on alike.
func TestGoesOnAnywhere(t *testing.T) {
	d := uint64(6)
	var seen [9][4]int // by the phase that comes, and its mode
	var codes [4]int
	for k := range 150 {
		b := mustFrom(t, lively(&d))
		for n := range 60 {
			l := make([]api.Span, 12)
			for i := range l {
				l[i] = anySpan(&d)
			}
			l[0].Clear, l[0].Wait = draw(&d, 6) == 0, draw(&d, 6) == 0
			phase := b.State().CPU.Phase
			other := kept(t, b)
			onAlike(t, fmt.Sprintf("machine %d, cycle %d", k, n), b.Clone(), other, l)
			r := b.Step(l[0])
			seen[phase][r.Mode]++
			codes[r.Code]++
		}
	}
	for phase := api.Fetch; phase <= api.Interrupt; phase++ {
		for mode := api.Run; mode <= api.Load; mode++ {
			if seen[phase][mode] == 0 {
				t.Errorf("phase %d in mode %d was not seen: %v", phase, mode, seen)
			}
		}
	}
	if codes[0] == 0 || codes[1] == 0 || codes[2] == 0 || codes[3] == 0 {
		t.Errorf("codes: %v", codes)
	}
}

// P21.4: a machine that is saved and loaded between any two cycles, over and over, does as the one that never is.
func TestKeptEachCycle(t *testing.T) {
	d := uint64(66)
	for k := range 12 {
		b := mustFrom(t, lively(&d))
		other := b.Clone()
		for n := range 400 {
			s := anySpan(&d)
			other = kept(t, other)
			if x, y := b.Step(s), other.Step(s); x != y {
				t.Fatalf("machine %d, cycle %d: %v, and the one that is kept: %v", k, n, x, y)
			}
		}
		if !same(b.State(), other.State()) {
			t.Fatalf("machine %d: %s, and the one that is kept: %s", k, brief(b.State()), brief(other.State()))
		}
	}
}

// game is a machine that plays a CHIP-8 program: digits are drawn, the timers run, Q goes.
func game(t *testing.T) *board.Board {
	t.Helper()
	program := []byte{
		0x60, 0x05, 0xf0, 0x18, 0xf0, 0x15, // 0200: sound, delay
		0xc1, 0x3f, 0xc2, 0x1f, 0xc3, 0x0f, 0xf3, 0x29, 0xd1, 0x25, // 0206: a digit anywhere
		0xf4, 0x07, 0x34, 0x00, 0x12, 0x10, 0x12, 0x00, // 0210: till the time is over
	}
	b, e := board.New(4096, rom.Bytes(), append(inter.Bytes(), program...))
	if e != api.OK {
		t.Fatalf("board.New = %d", e)
	}
	return b
}

// P21.4: in the midst of frames, of the refresh routine and of the interpreter, for frames on end.
func TestGameGoesOn(t *testing.T) {
	b := game(t)
	d := uint64(7336)
	shown, on, quiet, loud := 0, 0, 0, 0
	for k := range 120 {
		m := b.State()
		if m.Raster.Got > 0 {
			shown++
		}
		if m.Raster.On {
			on++
		}
		if m.CPU.Q {
			loud++
		} else {
			quiet++
		}
		l := []api.Span{{Cycles: 5000, Bus: byte(k)}, {Cycles: 2500, Keys: uint16(k)}}
		onAlike(t, fmt.Sprintf("behind %d cycles", m.Cycles), b.Clone(), kept(t, b), l)
		if _, e := b.Run([]api.Span{{Cycles: 1 + draw(&d, 3000)}}); e != api.OK {
			t.Fatal(e)
		}
	}
	if shown == 0 || on == 0 || quiet == 0 || loud == 0 {
		t.Errorf("%d in the midst of a line, %d on, %d quiet, %d loud", shown, on, quiet, loud)
	}
}

// P21.4: at each cycle of two shown lines, of those in which INT is asked for, and of an instruction under way.
func TestEachCycleOfLines(t *testing.T) {
	b := game(t)
	for b.State().Raster.Line != 77 || !b.State().Raster.On {
		b.Step(api.Span{})
	}
	var codes [4]int
	for k := range 14 * 6 {
		onAlike(t, fmt.Sprintf("cycle %d", k), b.Clone(), kept(t, b), []api.Span{{Cycles: 60, Bus: 0xa5}})
		codes[b.Step(api.Span{Bus: 0xa5}).Code]++
	}
	if codes[api.S2] < 16 || codes[api.S3] != 1 || codes[api.S0] == 0 {
		t.Errorf("codes: %v", codes)
	}
}

// P21.4: Cycles goes on, too, from the greatest number to 0.
func TestCyclesGoOn(t *testing.T) {
	m := changed(func(m *api.Board) { m.Cycles = 1<<64 - 2 })
	b := mustFrom(t, m)
	other := kept(t, b)
	onAlike(t, "at its end", b, other, []api.Span{{Cycles: 5}})
	if got := kept(t, other).State().Cycles; got != 3 {
		t.Errorf("%d cycles", got)
	}
}
