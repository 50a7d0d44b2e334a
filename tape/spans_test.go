package tape

import (
	"bytes"
	"math"
	"slices"
	"testing"

	"vesper/api"
	"vesper/board"
	"vesper/script"
	"vesper/tone"
)

// wantSpans: for each wave two spans, all but Cycles and Tape as in s; Heard of them is the waves.
func wantSpans(t *testing.T, l []api.Wave, s api.Span) []api.Span {
	t.Helper()
	got, e := Spans(l, s)
	if e != api.OK || len(got) != 2*len(l) || script.Check(got) != api.OK {
		t.Fatalf("Spans of %d waves: %d spans, %d", len(l), len(got), e)
	}
	for i, w := range l {
		high, low := got[2*i], got[2*i+1]
		wantHigh := api.Span{
			Cycles: w.High, Tape: true, Keys: s.Keys, Flag: s.Flag, DMAIn: s.DMAIn, DMAOut: s.DMAOut, Interrupt: s.Interrupt, Clear: s.Clear, Wait: s.Wait, Bus: s.Bus,
		}
		wantLow := wantHigh
		wantLow.Cycles, wantLow.Tape = w.Low, false
		if high != wantHigh || low != wantLow {
			t.Fatalf("wave %d, %v: %+v, %+v", i, w, high, low)
		}
	}
	if back, e := Heard(got); e != api.OK || !slices.Equal(back, l) {
		t.Fatalf("Heard of Spans of %.200v: %.200v, %d", l, back, e)
	}
	return got
}

func wantNoSpans(t *testing.T, l []api.Wave, s api.Span, want api.Errno) {
	t.Helper()
	if got, e := Spans(l, s); e != want || len(got) != 0 {
		t.Errorf("Spans of %d waves, %.100v: %d spans, %d; want %d", len(l), l, len(got), e, want)
	}
}

// anySpan is a span in which everything is any, also what is not looked at.
func anySpan(d *uint64) api.Span {
	flip := func() bool { return draw(d, 2) == 0 }
	return api.Span{
		Cycles: draw(d, 5) - 2, Keys: uint16(draw(d, 65536)), Tape: flip(), Flag: flip(), DMAIn: flip(), DMAOut: flip(), Interrupt: flip(), Clear: flip(), Wait: flip(),
		Bus: byte(draw(d, 256)),
	}
}

// P12.3, P12.5: waves of all lengths, also such as are no bits, with any span; its Cycles and its Tape are not looked at.
func TestSpans(t *testing.T) {
	d := uint64(4)
	for range 300 {
		l := make([]api.Wave, draw(&d, 30))
		for i := range l {
			l[i] = api.Wave{High: 1 + draw(&d, 2000), Low: 1 + draw(&d, 2000)}
		}
		wantSpans(t, l, anySpan(&d))
	}
	for _, cycles := range []int{math.MinInt, -1, 0, 1, 1048577, math.MaxInt} {
		for _, tape := range []bool{false, true} {
			wantSpans(t, waves("0110"), api.Span{Cycles: cycles, Tape: tape, Bus: 0xff})
		}
	}
	for _, s := range []api.Span{{Keys: 0xffff}, {Flag: true}, {DMAIn: true}, {DMAOut: true}, {Interrupt: true}, {Clear: true}, {Wait: true}, {Bus: 1}, {}} {
		wantSpans(t, waves("10"), s)
	}
}

// P12.3: no wave at all is no span.
func TestSpansOfNone(t *testing.T) {
	for _, l := range [][]api.Wave{nil, {}, waves("01")[:0]} {
		if got, e := Spans(l, api.Span{Cycles: 5, Tape: true}); e != api.OK || len(got) != 0 {
			t.Errorf("Spans of no wave: %v, %d", got, e)
		}
	}
}

// P12.3: how many cycles a half may have.
func TestHalvesOfSpans(t *testing.T) {
	for _, n := range []int{1, 2, 39, 801, 1048575, 1048576} {
		wantSpans(t, []api.Wave{{High: n, Low: 3}}, api.Span{})
		wantSpans(t, []api.Wave{{High: 3, Low: n}}, api.Span{})
		wantSpans(t, []api.Wave{{High: n, Low: n}}, api.Span{})
	}
	for _, n := range []int{0, -1, 1048577, 1 << 21, 1<<32 + 56, -1 << 20, math.MinInt, math.MaxInt} {
		for _, w := range []api.Wave{{High: n, Low: 3}, {High: 3, Low: n}, {High: n, Low: n}} {
			wantNoSpans(t, []api.Wave{w}, api.Span{}, api.ErrArg)
			wantNoSpans(t, append(waves("0101"), w), api.Span{}, api.ErrArg)
			wantNoSpans(t, append([]api.Wave{w}, waves("0101")...), api.Span{}, api.ErrArg)
		}
	}
}

// P12.3: how many waves a script has room for, and how many cycles; a half that may not be is told ahead of both.
func TestLengthOfSpans(t *testing.T) {
	unit := api.Wave{High: 1, Low: 1}
	most := api.Wave{High: 1048576, Low: 1048576}
	wantSpans(t, slices.Repeat([]api.Wave{unit}, 2048), api.Span{Keys: 7})
	wantNoSpans(t, slices.Repeat([]api.Wave{unit}, 2049), api.Span{}, api.ErrLong)
	wantNoSpans(t, slices.Repeat([]api.Wave{unit}, 100000), api.Span{}, api.ErrLong)
	wantSpans(t, []api.Wave{most, most}, api.Span{})
	wantSpans(t, []api.Wave{most, {High: 1048576, Low: 1048575}}, api.Span{})
	wantNoSpans(t, []api.Wave{most, most, unit}, api.Span{}, api.ErrScriptSpan)
	wantNoSpans(t, []api.Wave{unit, most, most}, api.Span{}, api.ErrScriptSpan)
	wantSpans(t, slices.Repeat([]api.Wave{{High: 1024, Low: 1024}}, 2048), api.Span{})
	wantNoSpans(t, append(slices.Repeat([]api.Wave{{High: 1024, Low: 1024}}, 2047), api.Wave{High: 1024, Low: 1025}), api.Span{}, api.ErrScriptSpan)
	wantNoSpans(t, slices.Repeat([]api.Wave{most}, 2049), api.Span{}, api.ErrLong)
	for _, wrong := range []api.Wave{{High: 0, Low: 5}, {High: 5, Low: 0}, {High: 1048577, Low: 1}, {High: 1, Low: 1048577}} {
		wantNoSpans(t, append(slices.Repeat([]api.Wave{unit}, 2048), wrong), api.Span{}, api.ErrArg)
		wantNoSpans(t, append(slices.Repeat([]api.Wave{unit}, 5000), wrong), api.Span{}, api.ErrArg)
		wantNoSpans(t, append([]api.Wave{most, most, most}, wrong), api.Span{}, api.ErrArg)
	}
}

// P12.4: edges, answers written out: a number below 0 is so many low cycles.
func TestHeardEdges(t *testing.T) {
	for _, x := range []struct {
		cycles []int
		want   []api.Wave
	}{
		{nil, nil},
		{[]int{-1}, nil},
		{[]int{-3, -5}, nil},
		{[]int{1}, []api.Wave{{High: 1, Low: 0}}},
		{[]int{5, 6, 7}, []api.Wave{{High: 18, Low: 0}}},
		{[]int{5, -6}, []api.Wave{{High: 5, Low: 6}}},
		{[]int{-5, 6}, []api.Wave{{High: 6, Low: 0}}},
		{[]int{-5, 6, -7}, []api.Wave{{High: 6, Low: 7}}},
		{[]int{-5, -5, 6, 6, -7, -7}, []api.Wave{{High: 12, Low: 14}}},
		{[]int{1, -1, 1, -1, 1}, []api.Wave{{High: 1, Low: 1}, {High: 1, Low: 1}, {High: 1, Low: 0}}},
		{[]int{2, 3, -4, -1, 6, 1, -8}, []api.Wave{{High: 5, Low: 5}, {High: 7, Low: 8}}},
		{[]int{1048576, 1048576, -1048576, -1048576}, []api.Wave{{High: 2097152, Low: 2097152}}},
		{[]int{1048576, 1048576, 1048576, 1048576}, []api.Wave{{High: 4194304, Low: 0}}},
		{[]int{-1048576, -1048576, -1048576, 1048576}, []api.Wave{{High: 1048576, Low: 0}}},
	} {
		var l []api.Span
		for _, n := range x.cycles {
			l = append(l, api.Span{Cycles: max(n, -n), Tape: n > 0})
		}
		if got, e := Heard(l); e != api.OK || !slices.Equal(got, x.want) {
			t.Errorf("Heard of %v: %v, %d; want %v", x.cycles, got, e, x.want)
		}
		wantHeard(t, l)
	}
}

// P12.4: every script of up to five spans of one to three cycles; of spans Cycles and Tape alone are looked at.
func TestHeardEveryShortScript(t *testing.T) {
	d := uint64(5)
	scripts := [][]api.Span{nil}
	for range 6 {
		var longer [][]api.Span
		for _, l := range scripts {
			wantHeard(t, l)
			for cycles := 1; cycles <= 3; cycles++ {
				for _, tape := range []bool{false, true} {
					s := anySpan(&d)
					s.Cycles, s.Tape = cycles, tape
					longer = append(longer, append(slices.Clone(l), s))
				}
			}
		}
		scripts = longer
	}
}

// P12.4: long scripts, of few cycles a span and of many.
func TestHeardLongScripts(t *testing.T) {
	d := uint64(6)
	for _, most := range []int{1, 3, 1024} {
		for range 4 {
			l := make([]api.Span, 4096)
			for i := range l {
				l[i] = anySpan(&d)
				l[i].Cycles, l[i].Tape = 1+draw(&d, most), draw(&d, 3) == 0
			}
			wantHeard(t, l)
			wantHeard(t, l[:1+draw(&d, 4096)])
			if few, e := script.Normal(l); e == api.OK {
				a, _ := Heard(l)
				if b, _ := Heard(few); !slices.Equal(a, b) {
					t.Fatal("a script and its normal form are heard otherwise")
				}
			}
		}
	}
}

// P12.4: a script that Check refuses.
func TestHeardRefuses(t *testing.T) {
	full := api.Span{Cycles: 1048576, Tape: true}
	for _, x := range []struct {
		l    []api.Span
		want api.Errno
	}{
		{[]api.Span{{}}, api.ErrScriptSpan},
		{[]api.Span{{Cycles: 0, Tape: true}}, api.ErrScriptSpan},
		{[]api.Span{{Cycles: -1}}, api.ErrScriptSpan},
		{[]api.Span{{Cycles: 1048577, Tape: true}}, api.ErrScriptSpan},
		{[]api.Span{{Cycles: 5, Tape: true}, {Cycles: 5}, {}}, api.ErrScriptSpan},
		{[]api.Span{{Cycles: math.MaxInt}, {Cycles: math.MaxInt}}, api.ErrScriptSpan},
		{append(slices.Repeat([]api.Span{full}, 4), api.Span{Cycles: 1}), api.ErrScriptSpan},
		{make([]api.Span, 4097), api.ErrLong},
		{slices.Repeat([]api.Span{{Cycles: 1, Tape: true}}, 4097), api.ErrLong},
	} {
		if got, e := Heard(x.l); e != x.want || len(got) != 0 || script.Check(x.l) != x.want {
			t.Errorf("Heard of %d spans: %v, %d; want %d", len(x.l), got, e, x.want)
		}
	}
	if got, e := Heard(slices.Repeat([]api.Span{full}, 4)); e != api.OK || !slices.Equal(got, []api.Wave{{High: 4194304}}) {
		t.Errorf("Heard of the most cycles: %v, %d", got, e)
	}
}

// P12.5: a tape that is written, played and heard is read.
func TestPlayedAndHeard(t *testing.T) {
	b := []byte("vesper, a small computer of 1977\x00\x80\xff")
	l, e := Write(b, 500)
	if e != api.OK {
		t.Fatal(e)
	}
	s := wantSpans(t, l, api.Span{Keys: 0x8000, Flag: true})
	heard, e := Heard(append([]api.Span{{Cycles: 1000}}, s...))
	if e != api.OK || !slices.Equal(heard, l) {
		t.Fatalf("%d waves were heard of %d, %d", len(heard), len(l), e)
	}
	if got, e, at := Read(heard, len(b)); !bytes.Equal(got, b) || e != api.OK || at != 0 {
		t.Errorf("%q, %d, %d", got, e, at)
	}
	// Two spans of one level side by side are one half of a wave.
	cut, rest, e := script.Cut(s, 90)
	if e != api.OK {
		t.Fatal(e)
	}
	if heard, e := Heard(append(cut, rest...)); e != api.OK || !slices.Equal(heard, l) {
		t.Errorf("cut in two: %d waves, %d", len(heard), e)
	}
}

// P12.6: a machine whose Q goes after the tape's level, six cycles a look, hears the waves a little longer or shorter: the bytes are the same.
func TestMachine(t *testing.T) {
	rom := make([]byte, 512)
	// 00 B2 05; 02 REQ; 03 BR 00; 05 SEQ; 06 BR 00: the latch stays set, the ROM stands from 0 on.
	copy(rom, []byte{0x35, 0x05, 0x7a, 0x30, 0x00, 0x7b, 0x30, 0x00})
	m, e := board.New(2048, rom, nil)
	if e != api.OK {
		t.Fatal(e)
	}
	b := []byte{0x00, 0xff, 0x01, 0x80, 0xa5, 0x5a, 0x77, 0x12}
	l, e := Write(b, 9)
	if e != api.OK {
		t.Fatal(e)
	}
	s := wantSpans(t, l, api.Span{})
	records, e := m.Run(slices.Concat([]api.Span{{Cycles: 4, Clear: true}, {Cycles: 50}}, s))
	if e != api.OK {
		t.Fatal(e)
	}
	heard := tone.Waves(records)
	if slices.Equal(heard, l) || len(heard) != len(l) {
		t.Fatalf("%d waves of %d were heard; some are to be a little longer or shorter", len(heard), len(l))
	}
	if got, e, at := Read(heard, len(b)); !bytes.Equal(got, b) || e != api.OK || at != 0 {
		t.Errorf("%x, %d, %d; want %x", got, e, at, b)
	}
}
