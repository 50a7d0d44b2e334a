package board

import (
	"bytes"
	"slices"
	"testing"

	"vesper/api"
	"vesper/cpu"
	"vesper/pad"
	"vesper/pixie"
	"vesper/script"
)

// dice are numbers that look drawn, the same ones in each run.
type dice uint64

func (d *dice) draw(n int) int {
	*d = *d*6364136223846793005 + 1442695040888963407
	return int(uint64(*d) >> 33 % uint64(n))
}

func (d *dice) chance(n int) bool { return d.draw(n) == 0 }

// byte is any one, or an instruction that moves much: a load of a register, a branch, a store, a port.
func (d *dice) byte() byte {
	if d.chance(2) {
		return byte(d.draw(256))
	}
	often := []byte{0xf8, 0xa0, 0xb0, 0x30, 0x34, 0x36, 0x37, 0x3d, 0x5f, 0x73, 0x61, 0x62, 0x64, 0x69, 0x6c, 0x7a, 0x7b, 0x70, 0xd3, 0xe0, 0x00, 0xc0}
	return often[d.draw(len(often))]
}

func (d *dice) bytes(n int) []byte {
	b := make([]byte, n)
	for k := range b {
		b[k] = d.byte()
	}
	return b
}

// span is of 1 to so many cycles; Reset, Load and Pause are rare.
func (d *dice) span(most int) api.Span {
	return api.Span{
		Cycles:    1 + d.draw(most),
		Keys:      uint16(d.draw(65536)),
		Tape:      d.chance(2),
		Flag:      d.chance(2),
		DMAIn:     d.chance(8),
		DMAOut:    d.chance(8),
		Interrupt: d.chance(6),
		Clear:     d.chance(12),
		Wait:      d.chance(8),
		Bus:       byte(d.draw(256)),
	}
}

func (d *dice) script(spans, most int) []api.Span {
	l := make([]api.Span, spans)
	for k := range l {
		l[k] = d.span(most)
	}
	return l
}

// board is a machine that may be, somewhere in the midst.
func (d *dice) board() api.Board {
	s := api.Board{
		RAM:    d.bytes(2048 * (1 + d.draw(16))),
		ROM:    d.bytes(512),
		Latch:  d.chance(2),
		Pad:    api.Pad{Latch: byte(d.draw(16))},
		Cycles: uint64(d.draw(1 << 30)),
		Raster: api.Raster{Line: 70 + d.draw(150), Cycle: d.draw(14), On: d.chance(2)},
		CPU:    api.CPU{D: d.byte(), DF: d.chance(2), P: byte(d.draw(16)), X: byte(d.draw(16)), T: d.byte(), IE: d.chance(2), Q: d.chance(2), Phase: api.Fetch},
	}
	for k := range s.CPU.R {
		s.CPU.R[k] = uint16(d.draw(len(s.RAM) + 100))
		if d.chance(8) {
			s.CPU.R[k] = 0x8000 + uint16(d.draw(600))
		}
	}
	return s
}

// twin is the document's words once more: a machine that is its State.
type twin api.Board

// cell is RAM's byte that an address leads to, if it does.
func (w *twin) cell(a uint16) *byte {
	if w.Latch || int(a) >= len(w.RAM) {
		return nil
	}
	return &w.RAM[a]
}

func (w *twin) read(a uint16) byte {
	if cell := w.cell(a); cell != nil {
		return *cell
	}
	if a < 0x8000 && w.Latch || a >= 0x8000 && a <= 0x81ff {
		return w.ROM[a%512]
	}
	return 0xff
}

// step is P8.3 and P8.4, sentence by sentence.
func (w *twin) step(s api.Span) api.Record {
	mode := script.Mode(s)
	d := cpu.Drive(w.CPU, mode)
	on := s.Bus
	if d.Read {
		on = w.read(d.Address)
	}
	if d.Own {
		on = d.Data
	}
	p := api.Pins{Mode: mode, Data: on}
	p.EF = [4]bool{pixie.Flag(w.Raster), s.Tape, pad.Down(w.Pad, s.Keys), s.Flag}
	p.DMAIn = s.DMAIn
	p.DMAOut = pixie.Request(w.Raster, d) || s.DMAOut
	p.Interrupt = pixie.Interrupt(w.Raster) || s.Interrupt
	if cell := w.cell(d.Address); d.Write && cell != nil {
		*cell = on
	}
	w.CPU, w.Raster, w.Pad = cpu.Step(w.CPU, p), pixie.Step(w.Raster, d, mode), pad.Step(w.Pad, d, on)
	switch {
	case mode == api.Reset:
		w.Latch = true
	case d.Read && d.Port == 4:
		w.Latch = false
	}
	w.Cycles++
	return api.Record{Code: d.Code, Address: d.Address, Data: on, Read: d.Read, Write: d.Write, Port: d.Port, Q: w.CPU.Q, Mode: mode}
}

func (w *twin) run(l []api.Span) []api.Record {
	var r []api.Record
	for _, s := range l {
		for range s.Cycles {
			r = append(r, w.step(s))
		}
	}
	return r
}

func twinOf(s api.Board) *twin {
	s.RAM, s.ROM = slices.Clone(s.RAM), slices.Clone(s.ROM)
	w := twin(s)
	return &w
}

// P8.3, P8.4, P8.5: any machine, any script: record by record what the document says, and so it stands behind it.
func TestAnyMachineAnyScript(t *testing.T) {
	d := dice(8)
	var seen [4][4]int // by mode and code
	for k := range 400 {
		s, l := d.board(), d.script(30, 40)
		b, w := mustFrom(t, s), twinOf(s)
		want := w.run(l)
		got := run(t, b, l...)
		if len(got) != len(want) {
			t.Fatalf("machine %d: %d records, wanted %d", k, len(got), len(want))
		}
		for n := range want {
			if got[n] != want[n] {
				t.Fatalf("machine %d, cycle %d: %v, wanted %v", k, n, got[n], want[n])
			}
			seen[got[n].Mode][got[n].Code]++
		}
		stand(t, "behind a script", b, api.Board(*w))
	}
	for code := range 4 {
		if seen[api.Run][code] == 0 || seen[api.Pause][code] == 0 {
			t.Errorf("code S%d was not seen: %v", code, seen)
		}
	}
	if seen[api.Reset][api.S1] == 0 || seen[api.Load][api.S2] == 0 {
		t.Errorf("modes were not seen: %v", seen)
	}
}

// P8.3: from power on through whole frames, with a ROM that switches the chip on: it asks for INT and bytes.
func TestFrames(t *testing.T) {
	// E1: SEX 1; 69: INP 1; 30 02: on the spot. INT goes to R1, which is 0 then: the same once more, but P is 1.
	b := mustNew(t, 2048, rom(0xe1, 0x69, 0x30, 0x02), nil)
	w := twinOf(b.State())
	l := []api.Span{{Cycles: 3 * 14 * 262}}
	want, got := w.run(l), run(t, b, l...)
	if !slices.Equal(got, want) {
		t.Fatal("other records")
	}
	stand(t, "three frames", b, api.Board(*w))
	bytes, interrupts := 0, 0
	for n, r := range got {
		line := n / 14 % 262
		if r.Code == api.S2 && (line < 80 || line > 207) {
			t.Fatalf("cycle %d: a byte in the line %d", n, line)
		}
		if r.Code == api.S2 && r.Read && !r.Write {
			bytes++
		}
		if r.Code == api.S3 {
			interrupts++
		}
	}
	if bytes != 3*1024 || interrupts != 1 {
		t.Errorf("%d bytes, %d interrupts", bytes, interrupts)
	}
}

// P8.5: Run is Step for each cycle.
func TestRunIsSteps(t *testing.T) {
	d := dice(5)
	for range 60 {
		s, l := d.board(), d.script(20, 20)
		whole, single := mustFrom(t, s), mustFrom(t, s)
		got := run(t, whole, l...)
		n := 0
		for _, span := range l {
			for range span.Cycles {
				if want := single.Step(span); n >= len(got) || got[n] != want {
					t.Fatalf("cycle %d: wanted %v", n, want)
				}
				n++
			}
		}
		if n != len(got) {
			t.Fatalf("%d records, wanted %d", len(got), n)
		}
		stand(t, "step by step", whole, single.State())
	}
}

// P8.5: a script that may not be is refused, and nothing has happened; no span at all is a script.
func TestRunOfWrongOnes(t *testing.T) {
	many := func(n, cycles int) []api.Span { return slices.Repeat([]api.Span{{Cycles: cycles}}, n) }
	b := mustFrom(t, odd())
	for k, x := range []struct {
		l    []api.Span
		want api.Errno
	}{
		{nil, api.OK},
		{[]api.Span{}, api.OK},
		{many(1, 0), api.ErrScriptSpan},
		{many(1, -1), api.ErrScriptSpan},
		{many(1, api.MaxSpan+1), api.ErrScriptSpan},
		{append(many(3, 5), api.Span{}), api.ErrScriptSpan},
		{append(many(3, 5), api.Span{Cycles: -7}), api.ErrScriptSpan},
		{append(many(4, api.MaxSpan), api.Span{Cycles: 1}), api.ErrScriptSpan},
		{many(4097, 1), api.ErrLong},
		{many(4097, 0), api.ErrLong},
	} {
		if r, e := b.Run(x.l); len(r) != 0 || e != x.want {
			t.Errorf("%d: %d records, %d, wanted %d", k, len(r), e, x.want)
		}
		stand(t, "nothing has happened", b, odd())
	}
	if r, e := b.Run(many(4096, 1)); len(r) != 4096 || e != api.OK {
		t.Errorf("4096 spans: %d records, %d", len(r), e)
	}
	if got := b.State().Cycles; got != odd().Cycles+4096 {
		t.Errorf("%d cycles", got)
	}
}

// R5: the list that Run was handed is neither changed nor kept; its answers are new memory, and the caller's.
func TestRunKeepsNothing(t *testing.T) {
	d := dice(77)
	l := append(make([]api.Span, 0, 40), d.script(20, 9)...)
	copy(l[20:40], slices.Repeat([]api.Span{{Keys: 0x1234}}, 20))
	before := slices.Clone(l[:40])
	b := mustFrom(t, odd())
	first := run(t, b, l...)
	if !slices.Equal(l[:40], before) {
		t.Fatal("the script was changed")
	}
	want, at := slices.Clone(first), b.State()
	clear(l[:40])
	stand(t, "the script written over", b, at)
	second := run(t, b, before[:20]...)
	if !slices.Equal(first, want) {
		t.Fatal("an answer changed with its machine")
	}
	kept := slices.Clone(second)
	for k := range first[:cap(first)] {
		first[:cap(first)][k] = api.Record{Data: 0xee, Port: 9}
	}
	if !slices.Equal(second, kept) {
		t.Fatal("an answer changed with another one")
	}
	twice := mustFrom(t, odd())
	if got := append(run(t, twice, before[:20]...), run(t, twice, before[:20]...)...); !slices.Equal(got, append(want, kept...)) {
		t.Fatal("other records")
	}
	stand(t, "answers written over", b, twice.State())
}

// P8.7: what is told hangs on the State and the spans alone; a script that is cut in two anywhere is the same script.
func TestCutAnywhere(t *testing.T) {
	d := dice(3)
	for range 12 {
		s, l := d.board(), d.script(12, 14)
		whole := mustFrom(t, s)
		want := run(t, whole, l...)
		for n := range len(want) + 1 {
			first, others, e := script.Cut(l, n)
			if e != api.OK {
				t.Fatalf("Cut(%d) = %d", n, e)
			}
			b := mustFrom(t, s)
			got := run(t, b, first...)
			if len(got) != n {
				t.Fatalf("cut at %d: %d records", n, len(got))
			}
			got = append(got, run(t, b, others...)...)
			if !slices.Equal(got, want) {
				t.Fatalf("cut at %d: other records", n)
			}
			stand(t, "cut", b, whole.State())

			b = mustFrom(t, s) // and with another machine for the others, which stands as the first one did
			run(t, b, first...)
			if got := run(t, mustFrom(t, b.State()), others...); !slices.Equal(got, want[n:]) {
				t.Fatalf("cut at %d, from its State: other records", n)
			}
		}
	}
}

// P8.8: ROM never changes; RAM does at the address of a record that writes, alone, if the latch is not set and the address is below its size.
func TestWhatChanges(t *testing.T) {
	d := dice(88)
	written, dropped := 0, 0
	for k := range 60 {
		b := mustFrom(t, d.board())
		ahead := b.State()
		for n := range 200 {
			r := b.Step(d.span(1))
			behind := b.State()
			if !bytes.Equal(behind.ROM, ahead.ROM) {
				t.Fatalf("machine %d, cycle %d: ROM has changed", k, n)
			}
			if r.Write && !ahead.Latch && int(r.Address) < len(ahead.RAM) {
				ahead.RAM[r.Address] = r.Data
				written++
			} else if r.Write {
				dropped++
			}
			if !bytes.Equal(behind.RAM, ahead.RAM) {
				t.Fatalf("machine %d, cycle %d: %v: RAM has other bytes", k, n, r)
			}
			ahead = behind
		}
	}
	if written == 0 || dropped == 0 {
		t.Errorf("%d bytes written, %d dropped", written, dropped)
	}
}

// P8.9: in Pause nothing is read or written, there is no port, and all but the video chip and the count stays as it is.
func TestPause(t *testing.T) {
	d := dice(99)
	for k := range 60 {
		b := mustFrom(t, d.board())
		for n := range 60 {
			b.Step(d.span(1))
			ahead, span := b.State(), d.span(1)
			span.Clear, span.Wait = false, true
			r := b.Step(span)
			if r.Read || r.Write || r.Port != 0 || r.Mode != api.Pause || r.Data != span.Bus || r.Q != ahead.CPU.Q {
				t.Fatalf("machine %d, cycle %d: %v", k, n, r)
			}
			running := cpu.Drive(ahead.CPU, api.Run)
			if r.Code != running.Code || r.Address != running.Address {
				t.Fatalf("machine %d, cycle %d: %v, wanted code and address of %v", k, n, r, running)
			}
			want := ahead
			want.Cycles++
			want.Raster = pixie.Step(ahead.Raster, api.Drive{Code: r.Code, Address: r.Address}, api.Pause)
			stand(t, "paused", b, want)
		}
	}
}

// R7: machines know nothing of one another: two that go on in turn do as each does alone.
func TestTwoMachines(t *testing.T) {
	d := dice(7)
	one, two := d.board(), d.board()
	spans := d.script(600, 1)
	a, b := mustFrom(t, one), mustFrom(t, two)
	v, w := twinOf(one), twinOf(two)
	for k, s := range spans {
		if got, want := a.Step(s), v.step(s); got != want {
			t.Fatalf("one, cycle %d: %v, wanted %v", k, got, want)
		}
		other := spans[len(spans)-1-k]
		if got, want := b.Step(other), w.step(other); got != want {
			t.Fatalf("two, cycle %d: %v, wanted %v", k, got, want)
		}
	}
	stand(t, "one", a, api.Board(*v))
	stand(t, "two", b, api.Board(*w))
}
