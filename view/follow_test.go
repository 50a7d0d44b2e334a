package view

import (
	"fmt"
	"slices"
	"testing"

	"vesper/api"
	"vesper/script"
	"vesper/vip"
)

// anySpan is some cycles of the outer world, now and then with lines that are asked for, or in another mode than Run.
func anySpan(d *uint64, most int) api.Span {
	one := func(of int) bool { return draw(d, of) == 0 }
	return api.Span{
		Cycles: 1 + draw(d, most), Keys: uint16(draw(d, 65536)), Tape: one(2), Flag: one(2), Bus: byte(draw(d, 256)),
		DMAIn: one(40), DMAOut: one(9), Interrupt: one(9), Clear: one(60), Wait: one(6),
	}
}

func anyScript(d *uint64, spans, most int) []api.Span {
	l := make([]api.Span, spans)
	for k := range l {
		l[k] = anySpan(d, most)
	}
	return l
}

// wrongScripts are such as script.Check refuses, with its error.
func wrongScripts() map[string][]api.Span {
	full := api.Span{Cycles: 1 << 20}
	return map[string][]api.Span{
		"a span of no cycle":    {{Cycles: 5}, {}},
		"a span of less":        {{Cycles: -1}},
		"a span too long":       {{Cycles: 1<<20 + 1}},
		"a script too long":     {full, full, full, full, {Cycles: 1}},
		"too many spans":        slices.Repeat([]api.Span{{Cycles: 1}}, 4097),
		"too many, and too few": slices.Repeat([]api.Span{{}}, 4097),
	}
}

// wantRefused: Follow tells that error and nothing else, and nothing has happened.
func wantRefused(t *testing.T, what string, v *vip.VIP, l []api.Span, want api.Errno) {
	t.Helper()
	was := v.State()
	if beats, e := Follow(v, l); e != want || len(beats) != 0 {
		t.Errorf("%s: %d beats, %d; want %d", what, len(beats), e, want)
	}
	if m := v.State(); !sameBoard(m, was) {
		t.Errorf("%s: %s; want %s", what, brief(m), brief(was))
	}
}

// P23.2: a nil machine is told ahead of all else; one that no call has made is none with an interpreter.
func TestFollowNil(t *testing.T) {
	for what, l := range wrongScripts() {
		wantRefused(t, what, nil, l, api.ErrNil)
		wantRefused(t, what, &vip.VIP{}, l, api.ErrViewConfig)
	}
	wantRefused(t, "no script", nil, nil, api.ErrNil)
	wantRefused(t, "a script", nil, []api.Span{{Cycles: 3}}, api.ErrNil)
	wantRefused(t, "no machine", &vip.VIP{}, []api.Span{{Cycles: 3}}, api.ErrViewConfig)
}

// P23.2: machines of all other sizes are refused, ahead of what is wrong with a script.
func TestFollowSizes(t *testing.T) {
	for size := 2048; size <= 32768; size += 2048 {
		c, _ := vip.Game([]byte{0x12, 0x00})
		c.RAM = size
		v, e := vip.New(c)
		if e != api.OK {
			t.Fatalf("vip.New of %d = %d", size, e)
		}
		if size == 4096 {
			mustFollow(t, v, api.Span{Cycles: 100})
			continue
		}
		wantRefused(t, fmt.Sprintf("%d bytes", size), v, []api.Span{{Cycles: 3}}, api.ErrViewConfig)
		wantRefused(t, fmt.Sprintf("%d bytes", size), v, nil, api.ErrViewConfig)
		for what, l := range wrongScripts() {
			wantRefused(t, fmt.Sprintf("%d bytes, %s", size, what), v, l, api.ErrViewConfig)
		}
	}
}

// P23.2: one byte of the interpreter, or of ROM, another one; each once.
func TestFollowOtherBytes(t *testing.T) {
	abreast(t, 16, func(t *testing.T, n int) {
		d := uint64(300 + n)
		m, _ := atLoop(&d, n%13)
		for at := n; at < 512; at += 16 {
			for _, memory := range [][]byte{m.RAM, m.ROM} {
				was := memory[at]
				memory[at] ^= 1 << draw(&d, 8)
				l := []api.Span{{Cycles: 3}, {Cycles: draw(&d, 2)}}
				wantRefused(t, fmt.Sprintf("another byte at %04x", at), standing(t, m), l, api.ErrViewConfig)
				memory[at] = was
			}
		}
		mustFollow(t, standing(t, m), api.Span{Cycles: 3})
	})
}

// P23.2: what a machine is like besides, at its beginning, does not matter: it is followed wherever it stands.
func TestFollowElse(t *testing.T) {
	abreast(t, 16, func(t *testing.T, n int) {
		d := uint64(350 + n)
		for range 4 {
			m, _ := atLoop(&d, draw(&d, 13))
			c := &m.CPU
			switch n % 8 {
			case 0:
				m.Latch = true
			case 1:
				c.Phase, c.Op = api.Idle, 0
			case 2:
				c.R[2] = uint16(draw(&d, 65536))
			case 3:
				c.P, c.X = byte(draw(&d, 16)), byte(draw(&d, 16))
			case 4:
				c.Phase = api.Execute
			case 5:
				c.Phase, c.Op = api.Begin, 0
			case 6:
				c.R[c.P] = uint16(draw(&d, 65536))
			case 7:
				c.Phase = []api.Phase{api.DMAIn, api.DMAOut, api.Interrupt}[draw(&d, 3)]
			}
			mustFollow(t, standing(t, m), api.Span{Cycles: 4000})
		}
	})
}

// P23.2: what script.Check refuses; nothing has happened then.
func TestFollowWrongScripts(t *testing.T) {
	d := uint64(400)
	m, _ := atLoop(&d, 4)
	for what, l := range wrongScripts() {
		want := script.Check(l)
		if want == api.OK {
			t.Fatalf("%s: OK", what)
		}
		wantRefused(t, what, standing(t, m), l, want)
	}
}

// P23.2: no script at all: one beat, if the machine is at one.
func TestFollowNothing(t *testing.T) {
	d := uint64(410)
	m, g := atLoop(&d, 4)
	for _, l := range [][]api.Span{nil, {}} {
		beats := mustFollow(t, standing(t, m), l...)
		wantBeats(t, "at the fetch loop", beats, []api.Beat{{Game: g}})
	}
	if beats := mustFollow(t, gameVIP(t, 0x12, 0x00)); len(beats) != 0 {
		t.Errorf("at power on: %d beats", len(beats))
	}
	m.CPU.R[m.CPU.P]++
	if beats := mustFollow(t, standing(t, m)); len(beats) != 0 {
		t.Errorf("beside the fetch loop: %d beats", len(beats))
	}
}

// P23.2: from power on, each way a script may end about the first beats.
func TestFollowFromPowerOn(t *testing.T) {
	first, second := int(jumps[0].Cycles), int(jumps[1].Cycles)
	for _, n := range []int{1, first - 1, first, first + 1, first + 2, second - 1, second, second + 1} {
		beats := mustFollow(t, gameVIP(t, 0x12, 0x00), api.Span{Cycles: n})
		want := 0
		if n >= first {
			want++
		}
		if n >= second {
			want++
		}
		if len(beats) != want || want > 0 && beats[0].Cycle != uint64(first) || want > 1 && beats[1].Cycle != uint64(second) {
			t.Errorf("%d cycles: %d beats; want %d", n, len(beats), want)
		}
	}
}

// P23.2: all the beats of the machine that jumps on the spot, up to the thousandth, in a script of many spans.
func TestFollowLong(t *testing.T) {
	var l []api.Span
	for rest := int(jumps[1000].Cycles); rest > 0; {
		n := min(rest, 1+len(l))
		l = append(l, api.Span{Cycles: n, Bus: byte(n)})
		rest -= n
	}
	beats, e := Follow(gameVIP(t, 0x12, 0x00), l)
	if e != api.OK || len(beats) != 1001 {
		t.Fatalf("%d beats, %d", len(beats), e)
	}
	for k, beat := range beats {
		if g, is := theKit.stands(jumps[k]); !is || beat.Cycle != jumps[k].Cycles || !sameGame(beat.Game, g) {
			t.Fatalf("the beat %d behind %d cycles, %s; want behind %d", k, beat.Cycle, briefGame(beat.Game), jumps[k].Cycles)
		}
	}
}

// P23.2: the cycles are those of the script, wherever the machine's own count stands.
func TestFollowCountsTheScript(t *testing.T) {
	d := uint64(420)
	m, _ := atLoop(&d, 1)
	m.Cycles = 1<<64 - 50
	beats := mustFollow(t, standing(t, withGame(m, mustGame(t, jumps[0]))), api.Span{Cycles: 5000})
	if len(beats) < 3 || beats[0].Cycle != 0 || beats[len(beats)-1].Cycle > 5000 {
		t.Errorf("%d beats", len(beats))
	}
}

func mustGame(t *testing.T, m api.Board) api.Game {
	t.Helper()
	g, is := Game(m)
	if !is {
		t.Fatalf("%s: no game", brief(m))
	}
	return g
}

// aheadOf is the machine that jumps on the spot so many cycles ahead of a beat.
func aheadOf(t *testing.T, beat, cycles int) api.Board {
	t.Helper()
	v := standing(t, jumps[beat-1])
	if _, e := v.Play([]api.Span{{Cycles: int(jumps[beat].Cycles-jumps[beat-1].Cycles) - cycles}}); e != api.OK {
		t.Fatalf("Play = %d", e)
	}
	return v.State()
}

// P23.2: each row of up to four modes, a cycle each or some, from the beat on and from the cycles ahead of it: a beat that is paused is told ahead of each cycle; a fetch that is thrown away is told, too.
func TestFollowModes(t *testing.T) {
	abreast(t, 16, func(t *testing.T, n int) {
		for ahead := range 3 {
			m := aheadOf(t, 20+n, ahead)
			for modes := n; modes < 256; modes += 16 {
				var l []api.Span
				for k, rest := 0, modes; k < 4; k++ {
					l = append(l, api.Span{Cycles: 1 + (modes>>k+k)%3, Clear: rest&1 != 0, Wait: rest&2 != 0})
					rest >>= 2
				}
				l = append(l, api.Span{Cycles: 200})
				mustFollow(t, standing(t, m), l...)
			}
		}
	})
}

// P23.2: a machine that is paused at the beat, told with each cycle; then it goes on.
func TestFollowPaused(t *testing.T) {
	m := jumps[30]
	beats := mustFollow(t, standing(t, m), api.Span{Cycles: 500, Wait: true}, api.Span{Cycles: 1})
	if len(beats) != 501 {
		t.Fatalf("%d beats", len(beats))
	}
	for k, beat := range beats {
		if beat.Cycle != uint64(k) || !sameGame(beat.Game, beats[0].Game) {
			t.Fatalf("the beat %d: behind %d cycles", k, beat.Cycle)
		}
	}
	for _, s := range []api.Span{{Cycles: 500, Clear: true}, {Cycles: 500, Clear: true, Wait: true}} {
		if beats := mustFollow(t, standing(t, m), s); len(beats) != 1 || beats[0].Cycle != 0 {
			t.Errorf("Wait %v: %d beats", s.Wait, len(beats))
		}
	}
	// Reset, it begins anew, and comes to its fetch loop again.
	if beats := mustFollow(t, standing(t, m), api.Span{Cycles: 20, Clear: true}, api.Span{Cycles: 20000}); len(beats) < 3 || beats[1].Game.PC != 0x200 {
		t.Errorf("reset: %d beats", len(beats))
	}
}

// P23.2: any script, with all lines, from any game on.
func TestFollowAnyScript(t *testing.T) {
	abreast(t, 32, func(t *testing.T, n int) {
		d := uint64(450 + n)
		found := 0
		for range 8 {
			g := anyGame(&d, draw(&d, 13))
			g.PC = 0x200
			copy(g.Memory, []byte{0x61, 0x05, 0x82, 0x14, 0xf1, 0x15, 0x12, 0x00})
			m := withGame(jumps[draw(&d, 60)], g)
			m.CPU.R[0] = 0x0f00 + uint16(draw(&d, 256)) // where DMA-IN does no harm to the interpreter, for a while
			found += len(mustFollow(t, standing(t, m), anyScript(&d, 60, 80)...))
		}
		if found < 12 {
			t.Errorf("%d beats", found)
		}
	})
}

// P23.2: a script that is cut anywhere has the same beats; the one where it is cut is told at the end of the first part and at the beginning of the second.
func TestFollowCut(t *testing.T) {
	d := uint64(480)
	g := anyGame(&d, 3)
	g.PC = 0x200
	copy(g.Memory, []byte{0x61, 0x05, 0x82, 0x14, 0xa2, 0x22, 0x12, 0x00})
	base := standing(t, withGame(jumps[7], g))
	l := []api.Span{{Cycles: 6, Wait: true}, {Cycles: 120}, {Cycles: 60, DMAOut: true}, {Cycles: 154, Keys: 9, Bus: 7}}
	v := base.Clone()
	all := mustFollow(t, v, l...)
	if len(all) < 10 {
		t.Fatalf("%d beats", len(all))
	}
	abreast(t, 341, func(t *testing.T, n int) {
		one, two, _ := script.Cut(l, n)
		w := base.Clone()
		first, e := Follow(w, one)
		second, f := Follow(w, two)
		if e != api.OK || f != api.OK || !sameBoard(w.State(), v.State()) {
			t.Fatalf("%d, %d, %s; want %s", e, f, brief(w.State()), brief(v.State()))
		}
		if k := len(first); k > 0 && first[k-1].Cycle == uint64(n) {
			if len(second) == 0 || second[0].Cycle != 0 || !sameGame(second[0].Game, first[k-1].Game) {
				t.Fatal("the beat at the cut is not told again")
			}
			second = second[1:]
		}
		both := first
		for _, beat := range second {
			both = append(both, api.Beat{Cycle: beat.Cycle + uint64(n), Game: beat.Game})
		}
		wantBeats(t, "in two parts", both, all)
	})
}

// P23.2: a machine that is followed goes on as one that is played.
func TestFollowPlays(t *testing.T) {
	d := uint64(490)
	v := gameVIP(t, 0x61, 0x3f, 0xf1, 0x18, 0xc2, 0x3f, 0xd2, 0x25, 0x12, 0x04)
	w := v.Clone()
	for range 12 {
		// Lines that are asked for from outside could do harm to the interpreter.
		l := anyScript(&d, 5, 3000)
		for k := range l {
			l[k].DMAIn, l[k].DMAOut, l[k].Interrupt, l[k].Clear = false, false, false, false
		}
		mustFollow(t, v, l...)
		if _, e := w.Play(l); e != api.OK || !sameBoard(v.State(), w.State()) {
			t.Fatalf("%d, %s; want %s", e, brief(v.State()), brief(w.State()))
		}
	}
}

// P23.2: a byte of the interpreter is written over from outside: no beats any more, though the loop goes on; then it is as it was, and there are beats again.
func TestFollowMended(t *testing.T) {
	m := copyBoard(jumps[12])
	m.CPU.R[0] = 0 // the interpreter's first byte is done no more, once it has begun
	m.Raster.Line, m.Raster.Cycle, m.Raster.Got = 210, 0, 0
	v := standing(t, m)
	l := []api.Span{{Cycles: 2, DMAIn: true}, {Cycles: 1, Bus: ^theKit.inter[0]}, {Cycles: 600}}
	if beats := mustFollow(t, v, l...); len(beats) != 1 || v.State().CPU.R[0] != 1 {
		t.Fatalf("written over: %d beats, R0 %04x", len(beats), v.State().CPU.R[0])
	}
	wantRefused(t, "a byte is another one", v, []api.Span{{Cycles: 1}}, api.ErrViewConfig)
	// DMA-OUT takes R0 all around the addresses, up to that byte again.
	around := api.Span{DMAOut: true}
	for c := v.State().CPU; c.R[0] != 0xffff || c.Phase != api.DMAOut; c = v.State().CPU {
		around.Cycles++
		if _, e := v.Play([]api.Span{{Cycles: 1, DMAOut: true}}); e != api.OK || around.Cycles > 70000 {
			t.Fatalf("%d, R0 %04x", e, v.State().CPU.R[0])
		}
	}
	l = append(l, around, api.Span{Cycles: 1, DMAIn: true}, api.Span{Cycles: 1, Bus: theKit.inter[0]}, api.Span{Cycles: 3000})
	beats := mustFollow(t, standing(t, m), l...)
	if len(beats) < 5 || beats[0].Cycle != 0 || beats[1].Cycle < uint64(600+around.Cycles) {
		t.Errorf("%d beats", len(beats))
	}
}
