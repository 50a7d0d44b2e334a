package view

import (
	"bytes"
	"slices"
	"strings"
	"testing"

	"vesper/api"
	"vesper/game"
	"vesper/inter"
	"vesper/ops"
	"vesper/vip"
)

// between is what lies between two beats: how many S3, and the keys that were down, cycle by cycle, each mask once.
type between struct {
	ticks int
	keys  []uint16
}

// passed is what lies between two moments of a script.
func passed(l []api.Span, seen []api.Record, from, to uint64) between {
	var p between
	for _, r := range seen[from:to] {
		if r.Code == api.S3 {
			p.ticks++
		}
	}
	at := uint64(0)
	for _, s := range l {
		end := at + uint64(s.Cycles)
		if at < to && end > from && !slices.Contains(p.keys, s.Keys) {
			p.keys = append(p.keys, s.Keys)
		}
		at = end
	}
	return p
}

// ticked is a game whose timers have been counted down so often.
func ticked(g api.Game, n int) api.Game {
	for range n {
		g = game.Tick(g)
	}
	return g
}

// leads: the order of g leads to h, with some random byte and some key, some keys of those that were down, and all ticks ahead of it or behind it.
func leads(g, h api.Game, p between) bool {
	o, _ := game.Next(g)
	in := api.Feed{Random: h.V[o.X], Key: -1}
	if in.Random < 16 {
		in.Key = int(in.Random)
	}
	for _, in.Keys = range p.keys {
		for ahead := range p.ticks + 1 {
			w, out, e := game.Step(ticked(g, ahead), theKit.font, in)
			if e == api.OK && out == api.Done && sameGame(ticked(w, p.ticks-ahead), h) {
				return true
			}
		}
	}
	return false
}

// isDone: a game's order is done by some feed.
func isDone(g api.Game) bool {
	_, out, e := game.Step(g, theKit.font, api.Feed{})
	return e == api.OK && out == api.Done
}

// wantOrders follows a script and holds each beat against the one ahead of it: one order lies between them, and it is done in time; nor may a beat be missing at the end. Up to the first order that is not done: nothing is said of what comes then.
func wantOrders(t *testing.T, v *vip.VIP, l ...api.Span) []api.Beat {
	t.Helper()
	w := v.Clone()
	film, e := w.Play(l)
	if e != api.OK {
		t.Fatalf("Play = %d", e)
	}
	beats, e := Follow(v, l)
	if e != api.OK {
		t.Fatalf("Follow = %d", e)
	}
	end := uint64(len(film.Records))
	for k, one := range beats {
		o, _ := game.Next(one.Game)
		switch {
		case !isDone(one.Game):
			return beats
		case k+1 < len(beats):
			two := beats[k+1]
			wantOrder(t, one, two, passed(l, film.Records, one.Cycle, two.Cycle))
		case o.Op != api.OpKey && int(end-one.Cycle) > inter.Bound(o):
			t.Fatalf("the last beat is %d cycles ahead of the end, the order %+v takes %d at most", end-one.Cycle, o, inter.Bound(o))
		}
	}
	return beats
}

func wantOrder(t *testing.T, one, two api.Beat, p between) {
	t.Helper()
	o, _ := game.Next(one.Game)
	if !leads(one.Game, two.Game, p) {
		t.Fatalf("the order %+v with %d ticks and the keys %04x, behind %d cycles\n%s; behind %d\n%s", o, p.ticks, p.keys, one.Cycle, briefGame(one.Game), two.Cycle, briefGame(two.Game))
	}
	if n := int(two.Cycle - one.Cycle); o.Op != api.OpKey && n > inter.Bound(o) {
		t.Fatalf("the order %+v has taken %d cycles; %d is the bound", o, n, inter.Bound(o))
	}
}

// words are all words of each kind of orders.
func words() map[api.Op][]uint16 {
	all := map[api.Op][]uint16{}
	for w := range 65536 {
		if o, is := ops.Decode(uint16(w)); is {
			all[o.Op] = append(all[o.Op], uint16(w))
		}
	}
	return all
}

// kindsDone are the kinds of orders that are done whatever the keys are.
func kindsDone() []api.Op {
	var l []api.Op
	for op := api.OpClear; op <= api.OpFill; op++ {
		if op != api.OpKey {
			l = append(l, op)
		}
	}
	return l
}

// anyPlace is an address, often the first or the last one, from which on so many bytes lie within from and to.
func anyPlace(d *uint64, size, from, to int) uint16 {
	last := to - size
	switch draw(d, 4) {
	case 0:
		return uint16(from)
	case 1:
		return uint16(last)
	}
	return uint16(from + draw(d, last-from+1))
}

// reach is how many bytes from I on an order reads or writes, and whether the font may have them.
func reach(o api.Order) (int, bool) {
	switch o.Op {
	case api.OpDraw:
		return int(o.N), true
	case api.OpThree:
		return 3, false
	case api.OpStore:
		return int(o.X) + 1, false
	case api.OpFill:
		return int(o.X) + 1, true
	}
	return 0, false
}

// withWord is a game with a word at PC.
func withWord(g api.Game, w uint16) api.Game {
	g.Memory[g.PC-0x200], g.Memory[g.PC-0x1ff] = byte(w>>8), byte(w)
	return g
}

// ready is a game of all kinds in which the order of a word at PC is done, but for OpKey.
func ready(d *uint64, w uint16) api.Game {
	o, _ := ops.Decode(w)
	least, most := 0, 12
	switch o.Op {
	case api.OpReturn:
		least = 1
	case api.OpCall:
		most = 11
	}
	g := anyGame(d, least+draw(d, most-least+1))
	g.PC = anyPlace(d, 2, 0x200, 0xea0)
	if draw(d, 3) == 0 {
		g.V[o.Y] = g.V[o.X]
	}
	if n, font := reach(o); font && draw(d, 3) == 0 {
		from := int(theKit.font.From)
		g.I = anyPlace(d, n, from, from+len(theKit.font.Bytes))
	} else if n > 0 {
		g.I = anyPlace(d, n, 0x200, 0xea0)
	}
	return withWord(g, w)
}

// anyKeys are keys that go down and up within so many cycles.
func anyKeys(d *uint64, cycles int) []api.Span {
	var l []api.Span
	for cycles > 0 {
		n := min(cycles, 1+draw(d, 900))
		l = append(l, api.Span{Cycles: n, Keys: uint16(draw(d, 65536)), Tape: draw(d, 2) == 0, Flag: draw(d, 2) == 0, Bus: byte(draw(d, 256))})
		cycles -= n
	}
	return l
}

// P23.5, P23.6: every kind of order, of games that are laid, with all that a game has mixed: the next beat comes in time.
func TestEachOrder(t *testing.T) {
	all, kinds := words(), kindsDone()
	abreast(t, len(kinds), func(t *testing.T, n int) {
		d := uint64(600 + n)
		l := all[kinds[n]]
		bound := inter.Bound(api.Order{Op: kinds[n]})
		for range 12 {
			g := ready(&d, l[draw(&d, len(l))])
			m := mustLay(t, g, draw(&d, 60))
			beats := wantOrders(t, standing(t, m), anyKeys(&d, bound)...)
			if len(beats) < 2 || beats[0].Cycle != 0 || !sameGame(beats[0].Game, g) {
				t.Fatalf("%04x: %d beats, or another game", g.Memory[g.PC-0x200:g.PC-0x1fe], len(beats))
			}
		}
	})
}

// interruptIn is a machine at the fetch loop whose raster stands so that INT is asked for behind so many cycles.
func interruptIn(m api.Board, cycles int) api.Board {
	m = copyBoard(m)
	at := (78*14 - cycles%frameCycles + frameCycles) % frameCycles
	m.Raster.Line, m.Raster.Cycle, m.Raster.Got = at/14, at%14, 0
	return m
}

// P23.5, P23.6: every kind of order with the interrupt in any of its cycles, while timers run: they are counted down once, ahead of the order or behind it.
func TestInterruptedOrders(t *testing.T) {
	all, kinds := words(), kindsDone()
	abreast(t, len(kinds), func(t *testing.T, n int) {
		d := uint64(650 + n)
		l := all[kinds[n]]
		own := inter.Bound(api.Order{Op: kinds[n]}) % 1842 // what is left for the order itself, or less
		ticks := 0
		for k := range 20 {
			g := ready(&d, l[draw(&d, len(l))])
			g.Delay, g.Sound = []byte{0, 1, 2, 255}[k%4], []byte{0, 1, 2, 255}[k/4%4]
			v := standing(t, interruptIn(withGame(jumps[k], g), k*own/20))
			w := v.Clone()
			script := anyKeys(&d, inter.Bound(api.Order{Op: kinds[n]}))
			beats := wantOrders(t, v, script...)
			if len(beats) < 2 {
				t.Fatalf("%d beats", len(beats))
			}
			film, _ := w.Play(script)
			ticks += passed(script, film.Records, 0, beats[1].Cycle).ticks
		}
		if ticks < 8 {
			t.Errorf("%d interrupts", ticks)
		}
	})
}

// program is one that is written so; the tabs ahead of its lines are left out.
func program(t *testing.T, text string) []byte {
	t.Helper()
	b, e, line := ops.Program(strings.ReplaceAll(text, "\t", " "))
	if e != api.OK {
		t.Fatalf("the line %d: %d", line, e)
	}
	return b
}

// begun is a machine with a program, 50 cycles ahead of its first beat: were the key C down from power on, it would stay in the monitor.
func begun(t *testing.T, program []byte) *vip.VIP {
	t.Helper()
	v := gameVIP(t, program...)
	if _, e := v.Play([]api.Span{{Cycles: int(jumps[0].Cycles) - 50}}); e != api.OK {
		t.Fatalf("Play = %d", e)
	}
	return v
}

// everything is a program with every kind of order but OpKey, again and again, V0 to V9 and I being other ones in each round.
const everything = `
	up:
	clear
	random v0 ff
	random v1 3f
	random v2 1f
	set v3 07
	add v3 ff
	move v4 v0
	or v4 v1
	move v5 v0
	and v5 v2
	plus v0 v1
	minus v1 v2
	skip-is v4 ff
	skip-not v5 00
	add v6 01
	skip-same v1 v2
	skip-other v0 v4
	add v7 03
	digit v6
	draw v1 v2 5
	draw v0 v2 5
	draw vf v1 5
	point to table
	draw v6 v7 f
	on v3
	store v9
	point to table
	fill v3
	three v7
	call to deep
	skip-down v6
	add v8 01
	skip-up v7
	add v9 01
	timer va
	skip-is va 00
	jump to on
	random va 03
	delay va
	random vb 07
	sound vb
	on:
	random v0 02
	jump-by to away
	away:
	jump to up
	jump to up
	deep:
	add ve 01
	set vd 0b
	minus vd ve
	skip-is vf 00
	call to deep
	set ve 00
	return
	table:
	data 81 42 24 18 ff 00 a5 5a 01 80 f0 0f 33 cc 99 00
	data 00 00 00 00 00 00 00 00 00 00 00 00 00 00 00 00
`

// P23.5, P23.6: a program with every kind of order, for long, with keys down and up: each of them is done.
func TestEverything(t *testing.T) {
	abreast(t, 8, func(t *testing.T, n int) {
		d := uint64(700 + n)
		v := begun(t, program(t, everything))
		kinds := map[api.Op]int{}
		outOf, deepest := 0, 0
		for range 4 {
			beats := wantOrders(t, v, anyKeys(&d, 150000)...)
			for k, beat := range beats {
				o, _ := game.Next(beat.Game)
				kinds[o.Op]++
				deepest = max(deepest, len(beat.Game.Stack))
				if k > 0 && beat.Game.Delay == 0 && beats[k-1].Game.Delay == 1 {
					outOf++
				}
			}
		}
		for _, op := range kindsDone() {
			if kinds[op] < 2 {
				t.Errorf("the kind %d: %d orders", op, kinds[op])
			}
		}
		if outOf == 0 || deepest != 12 {
			t.Errorf("the delay timer has run out %d times, %d calls at most", outOf, deepest)
		}
	})
}

// P23.5: all of memory being orders of any kinds, laid at any beat; they are gone on with as long as they are done.
func TestAnyOrders(t *testing.T) {
	all, kinds := words(), slices.DeleteFunc(kindsDone(), func(op api.Op) bool { return op == api.OpCall || op == api.OpReturn })
	abreast(t, 16, func(t *testing.T, n int) {
		d := uint64(750 + n)
		done := 0
		for range 6 {
			g := anyGame(&d, draw(&d, 13))
			for at := 0; at < len(g.Memory); at += 2 {
				l := all[kinds[draw(&d, len(kinds))]]
				w := l[draw(&d, len(l))]
				g.Memory[at], g.Memory[at+1] = byte(w>>8), byte(w)
			}
			g.I, g.PC = anyPlace(&d, 16, 0x200, 0xea0), 0x200+uint16(2*draw(&d, 1600))
			beats := wantOrders(t, standing(t, mustLay(t, g, draw(&d, 100))), anyKeys(&d, 40000)...)
			for k := 0; k < len(beats) && isDone(beats[k].Game); k++ {
				done++
			}
		}
		if done < 12 {
			t.Errorf("%d orders", done)
		}
	})
}

// P23.5: both timers from 255 and from other numbers on till they have run out; each tick is one of the S3.
func TestTimersRunOut(t *testing.T) {
	starts := [][2]byte{{255, 255}, {255, 0}, {0, 255}, {1, 1}, {1, 0}, {0, 1}, {2, 7}, {7, 2}, {0, 0}, {3, 254}, {60, 3}, {16, 16}}
	abreast(t, len(starts), func(t *testing.T, n int) {
		g, _ := game.New([]byte{0x71, 0x01, 0x12, 0x00})
		g.Delay, g.Sound = starts[n][0], starts[n][1]
		m := mustLay(t, g, 7*n)
		long := max(g.Delay, g.Sound)
		l := []api.Span{{Cycles: (int(long) + 2) * frameCycles}}
		film, _ := standing(t, m).Play(l)
		beats := wantOrders(t, standing(t, m), l...)
		ticks, at := 0, uint64(0)
		for _, beat := range beats {
			ticks += passed(l, film.Records, at, beat.Cycle).ticks
			at = beat.Cycle
			if h := beat.Game; int(h.Delay) != max(int(g.Delay)-ticks, 0) || int(h.Sound) != max(int(g.Sound)-ticks, 0) {
				t.Fatalf("behind %d cycles and %d ticks: %d and %d", at, ticks, h.Delay, h.Sound)
			}
		}
		if ticks < int(long) || beats[len(beats)-1].Game.Delay != 0 || beats[len(beats)-1].Game.Sound != 0 {
			t.Errorf("%d ticks of %d", ticks, long)
		}
	})
}

// P23.5: DXYN all about the page's edges, of 0 to 15 rows, onto a page that is empty, full, or mixed.
func TestDrawAtEdges(t *testing.T) {
	abreast(t, 16, func(t *testing.T, rows int) {
		d := uint64(800 + rows)
		for k, at := range [][2]byte{{0, 0}, {63, 0}, {0, 31}, {63, 31}, {56, 17}, {57, 17}, {62, 30}, {5, byte(32 - rows)}, {64, 32}, {127, 63}, {128, 96}, {255, 255}, {13, byte(33 - rows)}} {
			g := ready(&d, 0xd340|uint16(rows))
			g.V[3], g.V[4] = at[0], at[1]
			switch k % 3 {
			case 0:
				clear(g.Page)
			case 1:
				g.Page = bytes.Repeat([]byte{0xff}, 256)
			}
			beats := wantOrders(t, standing(t, withGame(jumps[draw(&d, 90)], g)), api.Span{Cycles: 20000})
			if len(beats) < 2 || k%3 == 0 && beats[1].Game.V[15] != 0 {
				t.Errorf("%d rows at %v: %d beats, VF %d", rows, at, len(beats), beats[len(beats)-1].Game.V[15])
			}
		}
	})
}

// P23.5: a key is looked at as it was meanwhile: down or up all the time, one of both if it goes.
func TestSkipsByKeys(t *testing.T) {
	abreast(t, 16, func(t *testing.T, key int) {
		d := uint64(850 + key)
		for _, w := range []uint16{0xe39e, 0xe3a1} {
			for _, keys := range []uint16{0, 1 << key, 0xffff, ^uint16(1 << key)} {
				g := ready(&d, w)
				g.PC, g.V[3] = 0x300, byte(draw(&d, 16)<<4|key)
				g = withWord(g, w)
				beats := wantOrders(t, standing(t, withGame(jumps[key], g)), api.Span{Cycles: inter.Bound(api.Order{Op: api.OpSkipUp}), Keys: keys})
				skips := keys>>key&1 == 1 == (w == 0xe39e)
				if len(beats) < 2 || skips != (beats[1].Game.PC == 0x304) || !skips && beats[1].Game.PC != 0x302 {
					t.Fatalf("%04x with %02x, keys %04x: %d beats, PC %04x", w, g.V[3], keys, len(beats), beats[len(beats)-1].Game.PC)
				}
				both := []api.Span{{Cycles: 10 + draw(&d, 80), Keys: keys}, {Cycles: 2000, Keys: ^keys}}
				wantOrders(t, standing(t, withGame(jumps[key], g)), both...)
			}
		}
	})
}

// P23.5, P23.6: FX0A behind a press and a release, of each key, from any moment of a frame on: no beat while nothing is down, none while the key is; then within the bound, behind the moment that is named.
func TestKeys(t *testing.T) {
	bound := inter.Bound(api.Order{Op: api.OpKey})
	abreast(t, 48, func(t *testing.T, n int) {
		d, key := uint64(900+n), n%16
		x := uint16(draw(&d, 16))
		g := ready(&d, 0xf00a|x<<8)
		g.PC = 0x200 + uint16(2*draw(&d, 1000))
		g = withWord(g, 0xf00a|x<<8)
		g.V[x] = byte(key + 1)
		m := interruptIn(mustLay(t, g, draw(&d, 90)), draw(&d, frameCycles))
		ahead, down := 1+draw(&d, 2*frameCycles), twoFrames+draw(&d, frameCycles)
		l := []api.Span{{Cycles: ahead}, {Cycles: down, Keys: 1 << key}, {Cycles: twoFrames + bound}}
		beats := wantOrders(t, standing(t, m), l...)
		if len(beats) < 2 || beats[0].Cycle != 0 {
			t.Fatalf("the key %x: %d beats", key, len(beats))
		}
		up := uint64(ahead + down)
		if two := beats[1]; two.Cycle <= up || two.Cycle > up+uint64(twoFrames+bound) || int(two.Game.V[x]) != key || two.Game.PC != g.PC+2 {
			t.Fatalf("the key %x, up behind %d cycles: the beat behind %d, %s", key, up, two.Cycle, briefGame(two.Game))
		}
	})
}

// P23.5: programs that wait for keys, one behind the other, and show them; each key that is pressed and let go of is told once.
func TestManyKeys(t *testing.T) {
	v := gameVIP(t, program(t, `
		up:
		key v3
		digit v3
		draw v1 v2 5
		add v1 05
		jump to up
	`)...)
	d := uint64(950)
	keys := []int{7, 7, 0, 15, 12, 3}
	for range 6 {
		keys = append(keys, draw(&d, 16))
	}
	l := []api.Span{{Cycles: 20000}}
	for _, k := range keys {
		l = append(l, api.Span{Cycles: twoFrames + draw(&d, 3000), Keys: 1 << k}, api.Span{Cycles: twoFrames + 30000})
	}
	beats := wantOrders(t, v, l...)
	var told []int
	for k := 1; k < len(beats); k++ {
		if o, _ := game.Next(beats[k-1].Game); o.Op == api.OpKey {
			told = append(told, int(beats[k].Game.V[3]))
		}
	}
	if !slices.Equal(told, keys) {
		t.Errorf("keys %x; want %x", told, keys)
	}
}

// P23.5: nothing is told while FX0A waits, however long.
func TestNoKey(t *testing.T) {
	beats := wantOrders(t, gameVIP(t, 0x61, 0x05, 0xf0, 0x0a, 0x12, 0x00), api.Span{Cycles: 40 * frameCycles})
	if len(beats) != 2 {
		t.Errorf("%d beats", len(beats))
	}
}

// P23.5: an order that is none, or that machine code would do, or that leads outside, is the last one.
func TestStuck(t *testing.T) {
	for _, program := range [][]byte{nil, {0x61, 0x07, 0x00, 0x00}, {0x61, 0x07, 0x03, 0x45}, {0x61, 0x07, 0xf1, 0x99}, {0x61, 0x07, 0xe1, 0x99}, {0x61, 0x07, 0x00, 0xee}} {
		beats := wantOrders(t, gameVIP(t, program...), api.Span{Cycles: 60000})
		if want := 1 + len(program)/4; len(beats) != want {
			t.Errorf("% x: %d beats; want %d", program, len(beats), want)
		}
	}
}

// T3: a long play, cut into scripts of all lengths, is followed order by order: the game by itself, fed by what the trace tells, is where the machine is at each beat.
func TestByItself(t *testing.T) {
	abreast(t, 4, func(t *testing.T, n int) {
		d := uint64(980 + n)
		v := begun(t, program(t, everything))
		g, _ := game.New(program(t, everything))
		isBegun, done := false, 0
		last := between{}
		for range 60 {
			l := anyKeys(&d, 1+draw(&d, 9000))
			film, _ := v.Clone().Play(l)
			beats, e := Follow(v, l)
			if e != api.OK {
				t.Fatal(e)
			}
			at := uint64(0)
			for _, beat := range beats {
				more := passed(l, film.Records, at, beat.Cycle)
				last.ticks += more.ticks
				last.keys = append(last.keys, more.keys...)
				at = beat.Cycle
				if again := beat.Cycle == 0 && isBegun && sameGame(beat.Game, g); again {
					continue // the beat at which the last script was cut
				}
				if !isBegun && !sameGame(beat.Game, g) || isBegun && !leads(g, beat.Game, last) {
					t.Fatalf("%s; then %s", briefGame(g), briefGame(beat.Game))
				}
				g, isBegun, last = beat.Game, true, between{}
				done++
			}
			more := passed(l, film.Records, at, uint64(len(film.Records)))
			last.ticks += more.ticks
			last.keys = append(last.keys, more.keys...)
		}
		if done < 300 {
			t.Errorf("%d orders", done)
		}
	})
}
