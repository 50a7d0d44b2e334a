package board

import (
	"fmt"
	"math"
	"testing"

	"vesper/api"
)

// run runs a script that may be.
func run(t *testing.T, b *Board, l ...api.Span) []api.Record {
	t.Helper()
	r, e := b.Run(l)
	if e != api.OK {
		t.Fatalf("Run(%v) = %d", l, e)
	}
	return r
}

// about is a machine of 2048 bytes about to go on with a phase and an op, the latch let go, R0 at 0010, P 0, X 1, R1 at 0020, R2 at 0030.
func about(phase api.Phase, op byte) api.Board {
	return api.Board{
		CPU:    api.CPU{R: [16]uint16{0x10, 0x20, 0x30, 0x40}, D: 0x5a, X: 1, IE: true, Op: op, Phase: phase},
		RAM:    pattern(2048, 9),
		ROM:    pattern(512, 130),
		Cycles: 100,
	}
}

// The chapter's example, record by record.
func TestExample(t *testing.T) {
	b := mustNew(t, 2048, rom(0xf8, 0x12, 0xa1, 0x64, 0x99), []byte{7})
	got := run(t, b, api.Span{Cycles: 7})
	want := []api.Record{
		{Code: api.S1, Address: 0, Data: 0x00},
		{Code: api.S0, Address: 0, Data: 0xf8, Read: true},
		{Code: api.S1, Address: 1, Data: 0x12, Read: true},
		{Code: api.S0, Address: 2, Data: 0xa1, Read: true},
		{Code: api.S1, Address: 0, Data: 0x12},
		{Code: api.S0, Address: 3, Data: 0x64, Read: true},
		{Code: api.S1, Address: 4, Data: 0x99, Read: true, Port: 4},
	}
	if len(got) != len(want) {
		t.Fatalf("%d records", len(got))
	}
	for k := range want {
		if got[k] != want[k] {
			t.Errorf("record %d: %v, wanted %v", k, got[k], want[k])
		}
	}
	if s := b.State(); s.Latch || s.Cycles != 7 || s.RAM[0] != 7 || s.CPU.R[1] != 0x12 {
		t.Errorf("behind it: %s", brief(s))
	}
	if r := b.Step(api.Span{}); r != (api.Record{Code: api.S0, Address: 5, Data: 0, Read: true}) {
		t.Errorf("the next fetch: %v", r)
	}
	if b, e := New(2047, rom(), nil); b != nil || e != api.ErrStoreSize {
		t.Errorf("New(2047, ..): %d", e)
	}
	s := b.State()
	if s.Pad.Latch = 15; Check(s) != api.OK {
		t.Errorf("the pad's latch 15: %d", Check(s))
	}
	if s.Pad.Latch = 16; Check(s) != api.ErrArg {
		t.Errorf("the pad's latch 16: %d", Check(s))
	}
}

// P8.3, P8.4: where the byte on the bus comes from, and all of the record; the outer world has 77 there.
func TestBus(t *testing.T) {
	ram, firm := pattern(2048, 9), pattern(512, 130)
	for _, x := range []struct {
		what  string
		phase api.Phase
		op    byte
		do    func(s *api.Board)
		want  api.Record
	}{
		{"begin", api.Begin, 0, nil, api.Record{Code: api.S1, Address: 0x10, Data: 0x77}},
		{"fetch", api.Fetch, 0, nil, api.Record{Address: 0x10, Data: ram[0x10], Read: true}},
		{"fetch, latch set", api.Fetch, 0, func(s *api.Board) { s.Latch = true }, api.Record{Address: 0x10, Data: firm[0x10], Read: true}},
		{"fetch below RAM's size", api.Fetch, 0, func(s *api.Board) { s.CPU.R[0] = 0x7ff }, api.Record{Address: 0x7ff, Data: ram[0x7ff], Read: true}},
		{"fetch at RAM's size", api.Fetch, 0, func(s *api.Board) { s.CPU.R[0] = 0x800 }, api.Record{Address: 0x800, Data: 0xff, Read: true}},
		{"fetch there, latch set", api.Fetch, 0, func(s *api.Board) { s.CPU.R[0], s.Latch = 0x803, true }, api.Record{Address: 0x803, Data: firm[3], Read: true}},
		{"fetch from ROM", api.Fetch, 0, func(s *api.Board) { s.CPU.R[0] = 0x81ff }, api.Record{Address: 0x81ff, Data: firm[0x1ff], Read: true}},
		{"fetch behind ROM", api.Fetch, 0, func(s *api.Board) { s.CPU.R[0] = 0x8200 }, api.Record{Address: 0x8200, Data: 0xff, Read: true}},
		{"GLO 3", api.Execute, 0x83, nil, api.Record{Code: api.S1, Address: 0x40, Data: 0x40}},
		{"PHI 3", api.Execute, 0xb3, nil, api.Record{Code: api.S1, Address: 0x40, Data: 0x5a}},
		{"SEX 3", api.Execute, 0xe3, nil, api.Record{Code: api.S1, Address: 0x40, Data: 0x33}},
		{"STR 3", api.Execute, 0x53, nil, api.Record{Code: api.S1, Address: 0x40, Data: 0x5a, Write: true}},
		{"LDX", api.Execute, 0xf0, nil, api.Record{Code: api.S1, Address: 0x20, Data: ram[0x20], Read: true}},
		{"INC 3", api.Execute, 0x13, nil, api.Record{Code: api.S1, Address: 0x40, Data: 0x77}},
		{"OUT 1", api.Execute, 0x61, nil, api.Record{Code: api.S1, Address: 0x20, Data: ram[0x20], Read: true, Port: 1}},
		{"INP 7", api.Execute, 0x6f, nil, api.Record{Code: api.S1, Address: 0x20, Data: 0x77, Write: true, Port: 7}},
		{"SEQ", api.Execute, 0x7b, nil, api.Record{Code: api.S1, Address: 0x10, Data: 0x77, Q: true}},
		{"REQ", api.Execute, 0x7a, func(s *api.Board) { s.CPU.Q = true }, api.Record{Code: api.S1, Address: 0x10, Data: 0x77}},
		{"DEC 3, Q high", api.Execute, 0x23, func(s *api.Board) { s.CPU.Q = true }, api.Record{Code: api.S1, Address: 0x40, Data: 0x77, Q: true}},
		{"SAV", api.Execute, 0x78, func(s *api.Board) { s.CPU.T = 0xab }, api.Record{Code: api.S1, Address: 0x20, Data: 0xab, Write: true}},
		{"MARK", api.Execute, 0x79, func(s *api.Board) { s.CPU.T = 0xab }, api.Record{Code: api.S1, Address: 0x30, Data: 0x10, Write: true}},
		{"LBR", api.Second, 0xc0, func(s *api.Board) { s.CPU.B = 1 }, api.Record{Code: api.S1, Address: 0x10, Data: ram[0x10], Read: true}},
		{"DMA-IN", api.DMAIn, 0, nil, api.Record{Code: api.S2, Address: 0x10, Data: 0x77, Write: true}},
		{"DMA-OUT", api.DMAOut, 0, nil, api.Record{Code: api.S2, Address: 0x10, Data: ram[0x10], Read: true}},
		{"interrupt", api.Interrupt, 2, nil, api.Record{Code: api.S3, Address: 0x30, Data: 0x77}},
		{"idle", api.Idle, 0, nil, api.Record{Code: api.S1, Address: 0x10, Data: ram[0x10], Read: true}},
	} {
		s := about(x.phase, x.op)
		if x.do != nil {
			x.do(&s)
		}
		if got := mustFrom(t, s).Step(api.Span{Bus: 0x77}); got != x.want {
			t.Errorf("%s: %v, wanted %v", x.what, got, x.want)
		}
	}
}

// P8.3: the byte on the bus is the processor's.
func TestDataComesToTheProcessor(t *testing.T) {
	s := about(api.Fetch, 0)
	s.RAM[0x10] = 0xe7
	b := mustFrom(t, s)
	b.Step(api.Span{Bus: 0x77})
	if got := b.State().CPU; got.Op != 0xe7 || got.R[0] != 0x11 {
		t.Errorf("fetched: %v", got)
	}
	b = mustFrom(t, about(api.Execute, 0x6b)) // INP 3
	b.Step(api.Span{Bus: 0x77})
	if got := b.State(); got.CPU.D != 0x77 || got.RAM[0x20] != 0x77 {
		t.Errorf("INP: D %02x, RAM %02x", got.CPU.D, got.RAM[0x20])
	}
}

// P8.3, P8.8: a byte is written where RAM is, if the latch is let go, and nowhere else.
func TestWrites(t *testing.T) {
	for _, size := range []int{2048, 4096, 32768} {
		for _, at := range []int{0, 1, 0x7ff, 0x800, 0xfff, 0x1000, 0x7fff, 0x8000, 0x81ff, 0x8200, 0xffff} {
			for _, latch := range []bool{false, true} {
				for _, phase := range []api.Phase{api.DMAIn, api.Execute} {
					s := about(phase, 0x51) // STR 1
					s.RAM, s.Latch = pattern(size, 9), latch
					s.CPU.R[0], s.CPU.R[1] = uint16(at), uint16(at)
					b, want := mustFrom(t, s), byte(0x5a)
					if phase == api.DMAIn {
						want = 0xa6
					}
					what := fmt.Sprintf("%d bytes, latch %v, phase %d, %04x", size, latch, phase, at)
					if r := b.Step(api.Span{Bus: 0xa6}); r.Data != want || !r.Write || r.Read || int(r.Address) != at {
						t.Errorf("%s: %v", what, r)
					}
					if at < size && !latch {
						s.RAM[at] = want
					}
					got := b.State()
					s.CPU, s.Raster, s.Cycles = got.CPU, got.Raster, 101
					stand(t, what, b, s)
				}
			}
		}
	}
}

// P8.3: EF1 is the video chip's, EF2 the tape, EF3 the key at the pad's latch, EF4 the span's: each by itself, and all sets of them.
func TestFlags(t *testing.T) {
	for set := range 16 {
		for k := range 4 {
			for _, branch := range []byte{0x34, 0x3c} {
				s := about(api.Execute, branch+byte(k))
				s.RAM[0x10], s.Pad.Latch = 0xc8, 11
				span := api.Span{Keys: ^uint16(1 << 11), Tape: set>>1&1 == 1, Flag: set>>3&1 == 1, Bus: 0x77}
				if set&1 == 1 {
					s.Raster.Line = 204
				}
				if set>>2&1 == 1 {
					span.Keys = 1 << 11
				}
				b := mustFrom(t, s)
				b.Step(span)
				want := uint16(0x11)
				if (set>>k&1 == 1) == (branch == 0x34) {
					want = 0xc8
				}
				if got := b.State().CPU.R[0]; got != want {
					t.Errorf("set %04b: %02x goes to %04x, wanted %04x", set, branch+byte(k), got, want)
				}
			}
		}
	}
}

// P8.3: EFX is on in the lines 76 to 79 and 204 to 207, whether the chip is on or off.
func TestFlagByLines(t *testing.T) {
	for line := range 262 {
		for _, on := range []bool{false, true} {
			s := about(api.Execute, 0x34) // B1
			s.RAM[0x10], s.Raster = 0xc8, api.Raster{Line: line, Cycle: 13, On: on}
			b := mustFrom(t, s)
			b.Step(api.Span{})
			want := uint16(0x11)
			if line >= 76 && line <= 79 || line >= 204 && line <= 207 {
				want = 0xc8
			}
			if got := b.State().CPU.R[0]; got != want {
				t.Errorf("line %d, on %v: B1 goes to %04x, wanted %04x", line, on, got, want)
			}
		}
	}
}

// P8.3: EF3 for each key that is looked at and each that is down.
func TestKeys(t *testing.T) {
	for latch := range 16 {
		for key := range 16 {
			s := about(api.Execute, 0x36) // B3
			s.RAM[0x10], s.Pad.Latch = 0xc8, byte(latch)
			b := mustFrom(t, s)
			b.Step(api.Span{Keys: 1 << key})
			if got := b.State().CPU.R[0] == 0xc8; got != (key == latch) {
				t.Errorf("latch %d, key %d: taken is %v", latch, key, got)
			}
		}
	}
}

// P8.3: which of the requests, by the span and by the video chip, comes to the processor: what its next phase is.
func TestRequests(t *testing.T) {
	off, asks, wants := api.Raster{Line: 78, Cycle: 5}, api.Raster{Line: 78, Cycle: 5, On: true}, api.Raster{Line: 80, Cycle: 2, On: true}
	for k, x := range []struct {
		r    api.Raster
		span api.Span
		want api.Phase
	}{
		{off, api.Span{}, api.Fetch},
		{off, api.Span{Keys: 0xffff, Tape: true, Flag: true, Bus: 0xff}, api.Fetch},
		{off, api.Span{DMAIn: true}, api.DMAIn},
		{off, api.Span{DMAOut: true}, api.DMAOut},
		{off, api.Span{Interrupt: true}, api.Interrupt},
		{off, api.Span{DMAIn: true, DMAOut: true, Interrupt: true}, api.DMAIn},
		{off, api.Span{DMAOut: true, Interrupt: true}, api.DMAOut},
		{asks, api.Span{}, api.Interrupt},
		{asks, api.Span{Interrupt: true}, api.Interrupt},
		{asks, api.Span{DMAOut: true}, api.DMAOut},
		{wants, api.Span{}, api.DMAOut},
		{wants, api.Span{DMAOut: true}, api.DMAOut},
		{wants, api.Span{Interrupt: true}, api.DMAOut},
		{wants, api.Span{DMAIn: true}, api.DMAIn},
		{api.Raster{Line: 80, Cycle: 2}, api.Span{}, api.Fetch},
		{api.Raster{Line: 80, Cycle: 1, On: true}, api.Span{}, api.Fetch},
		{api.Raster{Line: 80, Cycle: 12, On: true, Got: 8}, api.Span{}, api.Fetch},
		{api.Raster{Line: 79, Cycle: 13, On: true}, api.Span{}, api.Interrupt},
		{api.Raster{Line: 77, Cycle: 13, On: true}, api.Span{}, api.Fetch},
		{api.Raster{Line: 208, Cycle: 5, On: true}, api.Span{}, api.Fetch},
	} {
		s := about(api.Execute, 0xe1) // SEX 1
		s.Raster = x.r
		b := mustFrom(t, s)
		b.Step(x.span)
		if got := b.State().CPU.Phase; got != x.want {
			t.Errorf("%d: %v with %v: phase %d, wanted %d", k, x.r, x.span, got, x.want)
		}
	}
}

// P8.3: a byte by DMA-OUT is the chip's; the request is held till the eighth one comes, and is gone in its very cycle.
func TestChipTakesBytes(t *testing.T) {
	for got := range 8 {
		for _, outer := range []bool{false, true} {
			s := about(api.DMAOut, 0xe1)
			s.Raster = api.Raster{Line: 120, Cycle: got + 4, On: true, Got: got}
			b := mustFrom(t, s)
			if r := b.Step(api.Span{DMAOut: outer}); r.Code != api.S2 || !r.Read || r.Address != 0x10 {
				t.Errorf("%d: %v", got, r)
			}
			want := api.DMAOut
			if got == 7 && !outer {
				want = api.Fetch
			}
			if s := b.State(); s.CPU.Phase != want || s.Raster != (api.Raster{Line: 120, Cycle: got + 5, On: true, Got: got + 1}) {
				t.Errorf("%d bytes, outer %v: phase %d, wanted %d; %v", got, outer, s.CPU.Phase, want, s.Raster)
			}
		}
	}
	s := about(api.DMAIn, 0xe1) // what is written is none of the chip's
	s.Raster = api.Raster{Line: 120, Cycle: 6, On: true, Got: 2}
	b := mustFrom(t, s)
	b.Step(api.Span{Bus: 5})
	if s := b.State(); s.Raster.Got != 2 || s.CPU.Phase != api.DMAOut {
		t.Errorf("DMA-IN: %v, phase %d", s.Raster, s.CPU.Phase)
	}
}

// P8.3: all lines are asked of how the machine stood ahead of the cycle.
func TestAskedAhead(t *testing.T) {
	s := about(api.Execute, 0x69) // INP 1 switches the chip on from the next cycle on: it does not ask for INT as yet
	s.Raster.Line = 78
	b := mustFrom(t, s)
	b.Step(api.Span{})
	if s := b.State(); s.CPU.Phase != api.Fetch || !s.Raster.On {
		t.Errorf("INP 1: phase %d, %v", s.CPU.Phase, s.Raster)
	}
	s = about(api.Execute, 0x61) // OUT 1 switches it off: it asks still
	s.Raster = api.Raster{Line: 78, On: true}
	b = mustFrom(t, s)
	b.Step(api.Span{})
	if s := b.State(); s.CPU.Phase != api.Interrupt || s.Raster.On {
		t.Errorf("OUT 1: phase %d, %v", s.CPU.Phase, s.Raster)
	}
	s = about(api.Execute, 0x64) // OUT 4 reads ahead of the latch's going: ROM
	s.Latch = true
	b = mustFrom(t, s)
	if r := b.Step(api.Span{}); r.Data != s.ROM[0x20] || b.State().Latch {
		t.Errorf("OUT 4: %v", r)
	}
}

// P8.3: the latch is let go by OUT 4, by no other port, and by no INP; a cycle of Reset sets it.
func TestLatch(t *testing.T) {
	for op := 0x61; op <= 0x6f; op++ {
		if op == 0x68 {
			continue
		}
		for _, ahead := range []bool{false, true} {
			s := about(api.Execute, byte(op))
			s.Latch = ahead
			b := mustFrom(t, s)
			b.Step(api.Span{Bus: 4})
			if got := b.State().Latch; got != (ahead && op != 0x64) {
				t.Errorf("%02x: latch %v, then %v", op, ahead, got)
			}
		}
	}
	for _, phase := range []api.Phase{api.Fetch, api.Idle, api.DMAIn, api.DMAOut, api.Interrupt, api.Begin, api.Execute} {
		for mode, span := range []api.Span{{}, {Wait: true}, {Clear: true}, {Clear: true, Wait: true}} {
			for _, ahead := range []bool{false, true} {
				s := about(phase, 0)
				s.Latch = ahead
				b := mustFrom(t, s)
				b.Step(span)
				if got := b.State().Latch; got != (ahead || mode == 2) {
					t.Errorf("phase %d, mode %d: latch %v, then %v", phase, mode, ahead, got)
				}
			}
		}
	}
	for mode, span := range []api.Span{{}, {Wait: true}, {Clear: true}, {Clear: true, Wait: true}} {
		s := about(api.Execute, 0x64)
		s.Latch = true
		b := mustFrom(t, s)
		b.Step(span)
		if got := b.State().Latch; got != (mode != 0) {
			t.Errorf("OUT 4 in the mode %d: latch %v", mode, got)
		}
	}
}

// P8.3: the pad's latch is the low four bits of what OUT 2 reads.
func TestPadGoesOn(t *testing.T) {
	for op := 0x61; op <= 0x6f; op++ {
		if op == 0x68 {
			continue
		}
		s := about(api.Execute, byte(op))
		s.RAM[0x20], s.Pad.Latch = 0x9d, 6
		b := mustFrom(t, s)
		b.Step(api.Span{Bus: 0x33})
		want := byte(6)
		if op == 0x62 {
			want = 13
		}
		if got := b.State().Pad.Latch; got != want {
			t.Errorf("%02x: the pad's latch is %d, wanted %d", op, got, want)
		}
	}
}

// P8.3: the video chip goes on in each mode; Reset and Load switch it off.
func TestRasterGoesOn(t *testing.T) {
	for mode, span := range []api.Span{{}, {Wait: true}, {Clear: true}, {Clear: true, Wait: true}} {
		for _, x := range []struct{ from, to api.Raster }{
			{api.Raster{Line: 10, Cycle: 3}, api.Raster{Line: 10, Cycle: 4}},
			{api.Raster{Line: 10, Cycle: 13}, api.Raster{Line: 11}},
			{api.Raster{Line: 261, Cycle: 13}, api.Raster{}},
			{api.Raster{Line: 90, Cycle: 9, Got: 5}, api.Raster{Line: 90, Cycle: 10, Got: 5}},
		} {
			s := about(api.Fetch, 0)
			s.Raster = x.from
			s.Raster.On = true
			b := mustFrom(t, s)
			if r := b.Step(span); r.Mode != api.Mode(mode) {
				t.Errorf("mode %d: %v", mode, r)
			}
			x.to.On = mode < 2
			if got := b.State().Raster; got != x.to {
				t.Errorf("mode %d: %v, then %v, wanted %v", mode, x.from, got, x.to)
			}
		}
	}
}

// P8.3: bytes come in by Load, from 0 on; where the latch is set they are dropped.
func TestLoad(t *testing.T) {
	for _, latch := range []bool{false, true} {
		s := about(api.Begin, 0)
		s.Latch = latch
		b := mustFrom(t, s)
		load := api.Span{Clear: true, Wait: true, DMAIn: true}
		if r := b.Step(load); r != (api.Record{Code: api.S1, Address: 0x10, Mode: api.Load}) {
			t.Errorf("Begin: %v", r)
		}
		for k := range 5 {
			load.Bus, load.DMAIn = byte(0xa0+k), k < 4
			if r := b.Step(load); r != (api.Record{Code: api.S2, Address: uint16(k), Data: byte(0xa0 + k), Write: true, Mode: api.Load}) {
				t.Errorf("byte %d: %v", k, r)
			}
			if !latch {
				s.RAM[k] = byte(0xa0 + k)
			}
		}
		at := uint16(5)
		want := api.Record{Code: api.S1, Address: at, Data: s.RAM[at], Read: true, Mode: api.Load}
		if latch {
			want.Data = s.ROM[at]
		}
		if r := b.Step(load); r != want {
			t.Errorf("idle: %v, wanted %v", r, want)
		}
		got := b.State()
		s.CPU, s.Raster, s.Cycles = got.CPU, got.Raster, 107
		stand(t, fmt.Sprint("loaded, latch ", latch), b, s)
	}
}

// P8.3: a Reset throws away what is under way and sets the latch; the machine then begins at 0, out of ROM.
func TestReset(t *testing.T) {
	s := about(api.Second, 0xc0)
	s.CPU.Q, s.CPU.IE, s.CPU.B, s.CPU.P = true, false, 3, 2
	b := mustFrom(t, s)
	for k, x := range []struct {
		span api.Span
		want api.Record
	}{
		{api.Span{Clear: true, Bus: 0x77}, api.Record{Code: api.S1, Address: 0x10, Mode: api.Reset}},
		{api.Span{Clear: true, DMAIn: true, Interrupt: true, Bus: 0x77}, api.Record{Code: api.S1, Address: 0x10, Mode: api.Reset}},
		{api.Span{Bus: 0x77}, api.Record{Code: api.S1, Address: 0x10, Data: 0x77}},
		{api.Span{Bus: 0x77}, api.Record{Code: api.S0, Address: 0, Data: s.ROM[0], Read: true}},
	} {
		if r := b.Step(x.span); r != x.want {
			t.Errorf("cycle %d: %v, wanted %v", k, r, x.want)
		}
	}
	if got := b.State(); !got.Latch || !got.CPU.IE || got.CPU.Q {
		t.Errorf("behind it: %s", brief(got))
	}
}

// P8.3: Cycles of the span is not looked at; the machine's own is one more, modulo 2^64.
func TestCycles(t *testing.T) {
	for _, n := range []int{0, 1, 2, -1, api.MaxSpan + 1, math.MaxInt, math.MinInt} {
		b, other := mustFrom(t, odd()), mustFrom(t, odd())
		for k, span := range someSpans() {
			want := other.Step(span)
			span.Cycles = n
			if got := b.Step(span); got != want {
				t.Errorf("%d cycles, span %d: %v, wanted %v", n, k, got, want)
			}
		}
		stand(t, fmt.Sprint("cycles ", n), b, other.State())
		if got := b.State().Cycles; got != odd().Cycles+uint64(len(someSpans())) {
			t.Errorf("%d cycles behind it", got)
		}
	}
	s := odd()
	s.Cycles = math.MaxUint64 - 1
	b := mustFrom(t, s)
	for k, want := range []uint64{math.MaxUint64, 0, 1} {
		b.Step(someSpans()[k])
		if got := b.State().Cycles; got != want {
			t.Errorf("%d, wanted %d", got, want)
		}
	}
}
