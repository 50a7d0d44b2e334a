package vip

import (
	"fmt"
	"math"
	"slices"
	"testing"

	"vesper/api"
	"vesper/script"
)

// anySpan is some cycles of the outer world, in each mode, with lines that are asked for.
func anySpan(d *uint64, most int) api.Span {
	one := func(of int) bool { return draw(d, of) == 0 }
	return api.Span{
		Cycles: 1 + draw(d, most), Keys: uint16(draw(d, 65536)), Tape: one(2), Flag: one(2), Bus: byte(draw(d, 256)),
		DMAIn: one(9), DMAOut: one(9), Interrupt: one(6), Clear: one(25), Wait: one(12),
	}
}

func anyScript(d *uint64, spans, most int) []api.Span {
	l := make([]api.Span, spans)
	for k := range l {
		l[k] = anySpan(d, most)
	}
	return l
}

// instruction is any byte, or one that does much: Q, ports, branches by flags, IDL, a return, loads and stores, a long branch.
func instruction(d *uint64) byte {
	often := []byte{0x7a, 0x7b, 0x69, 0x69, 0x61, 0x62, 0x64, 0x34, 0x35, 0x36, 0x37, 0x30, 0x00, 0x70, 0x73, 0x5f, 0xf8, 0xa3, 0xb4, 0xd5, 0xc2, 0xcd}
	if draw(d, 3) == 0 {
		return byte(draw(d, 256))
	}
	return often[draw(d, len(often))]
}

// lively is a machine that may be, in any phase, somewhere on the screen, whose memory is instructions and whose registers point there.
func lively(d *uint64) api.Board {
	m := api.Board{
		CPU: api.CPU{
			D: byte(draw(d, 256)), DF: draw(d, 2) == 0, P: byte(draw(d, 16)), X: byte(draw(d, 16)), T: byte(draw(d, 256)),
			IE: draw(d, 2) == 0, Q: draw(d, 2) == 0, Op: byte(draw(d, 256)), Phase: api.Phase(1 + draw(d, 8)),
		},
		Raster: api.Raster{Line: draw(d, 262), Cycle: draw(d, 14), On: draw(d, 3) > 0},
		Pad:    api.Pad{Latch: byte(draw(d, 16))},
		Latch:  draw(d, 4) == 0,
		RAM:    make([]byte, 2048*(1+draw(d, 2))),
		ROM:    make([]byte, 512),
		Cycles: uint64(draw(d, math.MaxInt32)),
	}
	for k := range m.RAM {
		m.RAM[k] = instruction(d)
	}
	for k := range m.ROM {
		m.ROM[k] = instruction(d)
	}
	for k := range m.CPU.R {
		m.CPU.R[k] = uint16(draw(d, 2100))
		if draw(d, 8) == 0 {
			m.CPU.R[k] = 0x8000 + uint16(draw(d, 520))
		}
	}
	switch m.CPU.Phase {
	case api.Begin, api.Idle:
		m.CPU.Op = 0
	case api.Second:
		m.CPU.Op, m.CPU.B = 0xc0|m.CPU.Op&15, byte(draw(d, 256))
	}
	if m.Raster.Line >= 80 && m.Raster.Line <= 207 && m.Raster.Cycle > 2 {
		m.Raster.Got = draw(d, min(8, m.Raster.Cycle-2)+1)
	}
	return m
}

// wrongScripts are such as script.Check refuses, with its error.
func wrongScripts() map[string][]api.Span {
	full := api.Span{Cycles: 1 << 20}
	return map[string][]api.Span{
		"a span of 0 cycles":           {{}},
		"of 0 cycles behind others":    {{Cycles: 3}, {Cycles: 5}, {}},
		"of 0 cycles ahead of others":  {{Clear: true}, {Cycles: 5}},
		"of -1 cycle":                  {{Cycles: 2}, {Cycles: -1}},
		"of the least number":          {{Cycles: math.MinInt}},
		"of one cycle too many":        {{Cycles: 1<<20 + 1}},
		"of the greatest number":       {{Cycles: 7}, {Cycles: math.MaxInt}, {Cycles: math.MaxInt}},
		"five that are full":           {full, full, full, full, full},
		"a cycle too many in all":      {full, full, full, full, {Cycles: 1}},
		"a span too many":              slices.Repeat([]api.Span{{Cycles: 1}}, 4097),
		"too many, and of 0 cycles":    make([]api.Span, 4097),
		"nearly too many, the last 0":  append(slices.Repeat([]api.Span{{Cycles: 1}}, 4095), api.Span{}),
		"too many cycles, then a 0":    {full, full, full, full, full, {}},
		"Reset for too long":           {{Cycles: 1<<20 + 1, Clear: true}},
		"DMA and writes, then nothing": {{Cycles: 9, DMAIn: true, Bus: 0xee}, {Cycles: 0, DMAIn: true}},
	}
}

// P22.3: a script that may not be: script.Check's error, nothing beside it, and nothing has happened.
func TestWrongScripts(t *testing.T) {
	d := uint64(31)
	machines := []*VIP{mustNew(t, shining()), standing(t, lively(&d)), standing(t, lively(&d))}
	mustPlay(t, machines[0], api.Span{Cycles: 5000})
	for what, l := range wrongScripts() {
		want := script.Check(l)
		if want != api.ErrScriptSpan && want != api.ErrLong {
			t.Fatalf("%s: Check = %d", what, want)
		}
		for _, v := range machines {
			ahead := v.State()
			if f, e := v.Play(l); e != want || !isZeroFilm(f) {
				t.Errorf("%s: Play = %s, %d; want %d", what, briefFilm(f), e, want)
			}
			wantStand(t, what, v, ahead)
		}
	}
	for _, v := range machines {
		mustPlay(t, v, api.Span{Cycles: 500})
	}
}

// P22.3: a script of no span: nothing is told, nothing has happened.
func TestNoScript(t *testing.T) {
	v := mustNew(t, shining())
	for range 3 {
		ahead := v.State()
		for _, l := range [][]api.Span{nil, {}} {
			if f, e := v.Play(l); e != api.OK || !isZeroFilm(f) {
				t.Errorf("Play of no span: %s, %d", briefFilm(f), e)
			}
		}
		wantStand(t, "behind no span", v, ahead)
		mustPlay(t, v, api.Span{Cycles: whole - 1})
	}
}

// P22.3: any machine with any script, in each mode, with DMA, interrupts and flags from outside: records, frames and beeps.
func TestPlaysAnything(t *testing.T) {
	d := uint64(32)
	var codes, modes [4]int
	frames, some, beeps := 0, 0, 0
	for range 40 {
		v := standing(t, lively(&d))
		for range 2 {
			f := mustPlay(t, v, anyScript(&d, 20+draw(&d, 60), 1+draw(&d, 400))...)
			for _, c := range f.Records {
				codes[c.Code]++
				modes[c.Mode]++
			}
			for _, one := range f.Frames {
				frames++
				if n := len(slices.Concat(one.Rows...)); n > 0 && n < 1024 {
					some++
				}
			}
			beeps += len(f.Beeps)
		}
	}
	if slices.Contains(codes[:], 0) || slices.Contains(modes[:], 0) || frames < 30 || some < 10 || beeps < 100 {
		t.Errorf("codes %v, modes %v, %d frames, %d of them with some bytes, %d beeps", codes, modes, frames, some, beeps)
	}
}

// lit is the shining machine with the chip on, ahead of that cycle of a frame.
func lit(t *testing.T, at int) *VIP {
	t.Helper()
	v := mustNew(t, shining())
	if _, e := v.Play([]api.Span{{Cycles: whole + at}}); at > 0 && e != api.OK {
		t.Fatal(e)
	}
	if r := v.State().Raster; !r.On || r.Line != at/14 || r.Cycle != at%14 {
		t.Fatalf("%d cycles into a frame: %v", at, r)
	}
	return v
}

// P22.3: scripts that begin and end anywhere in a frame: which frames are told, and from where on. Those that begin ahead of the script or end behind it are not.
func TestFramesAnywhere(t *testing.T) {
	starts := []int{0, 1, 2, 13, 14, place(79, 13), place(80, 0), place(80, 5), place(130, 9), place(207, 13), place(208, 0), place(261, 0), place(261, 12), place(261, 13)}
	for _, at := range starts {
		base := lit(t, at)
		top := (whole - at) % whole // the first cycle with which a frame begins
		lengths := []int{1, 14, top, top + 1, top + 14, whole - 1, whole, whole + 1}
		for k := 1; k < 4; k++ {
			lengths = append(lengths, top+k*whole-1, top+k*whole, top+k*whole+1)
		}
		for _, n := range lengths {
			if n < 1 {
				continue
			}
			f, e := base.Clone().Play([]api.Span{{Cycles: n}})
			if e != api.OK || len(f.Records) != n {
				t.Fatalf("from %d on, %d cycles: %d records, %d", at, n, len(f.Records), e)
			}
			var want []int
			for from := top; from+whole <= n; from += whole {
				want = append(want, from)
			}
			var got []int
			for _, one := range f.Frames {
				got = append(got, one.From)
				wantFull(t, one, f.Records)
			}
			if !slices.Equal(got, want) {
				t.Errorf("from %d on, %d cycles: frames %v; want %v", at, n, got, want)
			}
		}
	}
}

// wantFull: a frame throughout which the chip was on has 1024 bytes, line by line those of the trace, from addresses that follow on one another (T2).
func wantFull(t *testing.T, one api.Frame, l []api.Record) {
	t.Helper()
	if one.Short || len(one.Rows) != 128 {
		t.Fatalf("frame %d: %d rows, short %v", one.From, len(one.Rows), one.Short)
	}
	for k, row := range one.Rows {
		var want []byte
		var at []uint16
		from := one.From + place(80+k, 0)
		for _, c := range l[from : from+14] {
			if c.Code == api.S2 && c.Read {
				want, at = append(want, c.Data), append(at, c.Address)
			}
		}
		if len(want) != 8 || !slices.Equal(row, want) {
			t.Fatalf("frame %d, row %d: %x; want %x", one.From, k, row, want)
		}
		for i := range at {
			if at[i] != at[0]+uint16(i) {
				t.Fatalf("frame %d, row %d: from the addresses %x", one.From, k, at)
			}
		}
	}
}

// P22.3: a frame in each mode from its beginning on: paused it has no byte, by Reset and Load the chip is off; all of these are told, and are short.
func TestFramesInModes(t *testing.T) {
	for _, s := range []api.Span{{Wait: true}, {Clear: true}, {Clear: true, Wait: true}} {
		s.Cycles = whole
		v := lit(t, 0)
		f := mustPlay(t, v, s)
		if len(f.Frames) != 1 || f.Frames[0].From != 0 || !f.Frames[0].Short || len(slices.Concat(f.Frames[0].Rows...)) != 0 {
			t.Errorf("mode %d: %s", script.Mode(s), briefFilm(f))
		}
		for _, c := range f.Records {
			if c.Mode != script.Mode(s) {
				t.Fatalf("mode %d: %v", script.Mode(s), c)
			}
		}
		if on := v.State().Raster.On; on == s.Clear {
			t.Errorf("mode %d: the chip is on: %v", script.Mode(s), on)
		}
		// Behind a Pause it goes on, behind a Reset it begins anew, and the chip is on long ahead of the lines that are shown; behind Load it rests.
		f = mustPlay(t, v, api.Span{Cycles: whole})
		if len(f.Frames) != 1 || f.Frames[0].Short != (s.Clear && s.Wait) {
			t.Errorf("behind mode %d: %s", script.Mode(s), briefFilm(f))
		}
	}
}

// P22.3: a pause, a reset and DMA from outside in the midst of a frame: it is told, with what the chip got.
func TestShortFrames(t *testing.T) {
	ahead := place(100, 0)
	for _, x := range []struct {
		what string
		span api.Span
		want func(rows [][]byte) bool
	}{
		{"a pause of ten lines", api.Span{Cycles: 140, Wait: true}, func(rows [][]byte) bool { return len(rows[22]) == 0 && len(rows[40]) == 8 }},
		{"DMA-IN for ten lines", api.Span{Cycles: 140, DMAIn: true}, func(rows [][]byte) bool { return len(rows[22]) == 0 && len(rows[40]) == 8 }},
		{"a cycle of Reset", api.Span{Cycles: 1, Clear: true}, func(rows [][]byte) bool { return len(rows[19]) == 8 && len(rows[20]) == 0 && len(rows[127]) == 8 }},
		{"Load to the end", api.Span{Cycles: whole - ahead - 1, Clear: true, Wait: true}, func(rows [][]byte) bool { return len(rows[19]) == 8 && len(rows[20]) == 0 && len(rows[127]) == 0 }},
	} {
		v := lit(t, 0)
		f := mustPlay(t, v, api.Span{Cycles: ahead}, x.span, api.Span{Cycles: whole - ahead - x.span.Cycles})
		if len(f.Frames) != 1 || !f.Frames[0].Short || !x.want(f.Frames[0].Rows) {
			t.Errorf("%s: %s", x.what, briefFilm(f))
		}
	}
	// Who else asks for DMA-OUT gives the chip its bytes, too: the frame is not short.
	f := mustPlay(t, lit(t, 0), api.Span{Cycles: whole, DMAOut: true})
	if len(f.Frames) != 1 || f.Frames[0].Short {
		t.Errorf("DMA-OUT from outside: %s", briefFilm(f))
	}
}

// P22.3: beeps that are high at the beginning, at the end and all along, and what a Reset makes of them; From and To count from the script's first record.
func TestBeeps(t *testing.T) {
	v := mustNew(t, shining())
	for _, x := range []struct {
		l    []api.Span
		want []api.Beep
	}{
		{[]api.Span{{Cycles: 6}}, nil},
		{[]api.Span{{Cycles: 1}}, []api.Beep{{From: 0, To: 1}}},
		{[]api.Span{{Cycles: 50}}, []api.Beep{{From: 0, To: 50}}},
		{[]api.Span{{Cycles: 5, Wait: true}}, []api.Beep{{From: 0, To: 5}}},
		{[]api.Span{{Cycles: 3}, {Cycles: 1, Clear: true}, {Cycles: 8}}, []api.Beep{{From: 0, To: 3}, {From: 10, To: 12}}},
		{[]api.Span{{Cycles: 2, Clear: true}, {Cycles: 9}, {Cycles: 2, Clear: true}}, []api.Beep{{From: 8, To: 11}}},
		{[]api.Span{{Cycles: 6}}, nil},
		{[]api.Span{{Cycles: 20}, {Cycles: 1, Clear: true}, {Cycles: 7}, {Cycles: 1, Clear: true}, {Cycles: 6}}, []api.Beep{{From: 0, To: 20}, {From: 27, To: 28}}},
	} {
		if f := mustPlay(t, v, x.l...); !slices.Equal(f.Beeps, x.want) {
			t.Fatalf("%v: beeps %v; want %v", x.l, f.Beeps, x.want)
		}
	}
}

// P22.3 (T5): a machine that makes Q high and low again has a beep every ten cycles; a frame lies beside them.
func TestManyBeeps(t *testing.T) {
	v := mustNew(t, code(0x64, 0x00, 0x7b, 0xe1, 0xe1, 0x7a, 0x30, 0x02)) // OUT 4; SEQ; SEX 1 twice; REQ; BR 02
	f := mustPlay(t, v, api.Span{Cycles: 2 * 1300, Wait: true}, api.Span{Cycles: 1200})
	if len(f.Beeps) != 120 || len(f.Frames) != 1 {
		t.Fatalf("%s", briefFilm(f))
	}
	// Begin and OUT 4 take three cycles, the fetch of SEQ one.
	for k, b := range f.Beeps {
		if want := 2600 + 4 + 10*k; b.From != want || b.To != want+6 {
			t.Fatalf("beep %d: %v; want %d to %d", k, b, want, want+6)
		}
	}
}

// P22.3: as long a script as there may be, with more than a thousand frames and hundreds of thousands of beeps.
func TestLongestScript(t *testing.T) {
	if testing.Short() {
		t.Skip("a long one")
	}
	image := slices.Repeat([]byte{0x7b, 0x7a}, 1024) // SEQ, REQ, and so on
	image[4] = 0x69
	image[2046], image[2047] = 0x30, 0x00
	firm := make([]byte, 512)
	copy(firm, []byte{0x64, 0, 0xc0, 0, 0}) // OUT 4; LBR 0000
	v := mustNew(t, api.Config{RAM: 2048, ROM: firm, Image: image})
	other := v.Clone()
	l := make([]api.Span, 4096)
	for k := range l {
		l[k] = api.Span{Cycles: 1024, Keys: uint16(k)}
	}
	f, e := v.Play(l)
	if e != api.OK || len(f.Records) != 1<<22 || len(f.Frames) != (1<<22)/whole || len(f.Beeps) < 500000 {
		t.Fatalf("%d records, %d frames, %d beeps, %d", len(f.Records), len(f.Frames), len(f.Beeps), e)
	}
	for k, one := range f.Frames {
		if one.From != k*whole || one.Short && k > 0 {
			t.Fatalf("frame %d: From %d, short %v", k, one.From, one.Short)
		}
	}
	at := 0
	for k, b := range f.Beeps {
		if b.From < at || b.To <= b.From {
			t.Fatalf("beep %d: %v", k, b)
		}
		for ; at < b.To; at++ {
			if f.Records[at].Q != (at >= b.From) {
				t.Fatalf("beep %d: %v, but record %d is %v", k, b, at, f.Records[at])
			}
		}
	}
	if _, e := other.Play([]api.Span{{Cycles: 1 << 20}, {Cycles: 1 << 20}, {Cycles: 1 << 20}, {Cycles: 1<<20 - 1}, {Cycles: 1, Keys: 4095}}); e != api.OK {
		t.Fatal(e)
	}
	wantSame(t, "in five spans", v, other)
}

// P22.3: what is told of a script is the same each time: frames and beeps do not hang on who of those that look for them comes first.
func TestAlwaysAlike(t *testing.T) {
	d := uint64(33)
	for k := range 4 {
		base := standing(t, lively(&d))
		if k == 0 {
			base = lit(t, 17)
		}
		l := anyScript(&d, 80, 200)
		want := mustPlay(t, base.Clone(), l...)
		for n := range 60 {
			got, e := base.Clone().Play(l)
			if e != api.OK {
				t.Fatal(e)
			}
			wantFilm(t, fmt.Sprintf("machine %d, the %dth time", k, n), got, want)
		}
	}
}
