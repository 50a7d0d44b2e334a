package view

import (
	"bytes"
	"runtime"
	"slices"
	"sync"
	"testing"
	"time"

	"vesper/api"
	"vesper/game"
)

// roomy is the same list with room behind its end, which holds that thing; and all of it, list and room.
func roomy[T any](l []T, behind T) (list, all []T) {
	all = append(slices.Clone(l), slices.Repeat([]T{behind}, 700)...)
	return all[:len(l)], all
}

// overwrite writes that thing over a list and over all the room behind its end, and makes it grow.
func overwrite[T any](l []T, with T) {
	l = l[:cap(l)]
	for k := range l {
		l[k] = with
	}
	_ = append(l, with)
}

// scribble writes over all lists of a game.
func scribble(g api.Game) {
	overwrite(g.Stack, 0xeeee)
	overwrite(g.Page, 0xee)
	overwrite(g.Memory, 0xee)
}

func scribbleBoard(m api.Board) {
	overwrite(m.RAM, 0xee)
	overwrite(m.ROM, 0xee)
}

// apart: each list of a game is written over by itself, and the others stay. What was written over is put right again.
func apart(t *testing.T, what string, g api.Game) {
	t.Helper()
	was := copyGame(g)
	same := func(with api.Game) {
		t.Helper()
		if !sameGame(with, was) {
			t.Fatalf("%s: a list has changed with another one", what)
		}
	}
	overwrite(g.Stack, 0xeeee)
	same(api.Game{V: g.V, I: g.I, PC: g.PC, Stack: was.Stack, Delay: g.Delay, Sound: g.Sound, Page: g.Page, Memory: g.Memory})
	copy(g.Stack, was.Stack)
	overwrite(g.Page, 0xee)
	same(api.Game{V: g.V, I: g.I, PC: g.PC, Stack: g.Stack, Delay: g.Delay, Sound: g.Sound, Page: was.Page, Memory: g.Memory})
	copy(g.Page, was.Page)
	overwrite(g.Memory, 0xee)
	same(api.Game{V: g.V, I: g.I, PC: g.PC, Stack: g.Stack, Delay: g.Delay, Sound: g.Sound, Page: g.Page, Memory: was.Memory})
	copy(g.Memory, was.Memory)
	same(g)
}

// P23.1, R5: Game changes nothing of the machine, nor the room behind its ends; the game shares nothing with it, nor with another game.
func TestGameKeepsNothing(t *testing.T) {
	d := uint64(1000)
	for calls := range 13 {
		want, g := atLoop(&d, calls)
		m := copyBoard(want)
		var ram, firm []byte
		m.RAM, ram = roomy(m.RAM, 0x7b)
		m.ROM, firm = roomy(m.ROM, 0x7b)
		ramWas, firmWas := bytes.Clone(ram), bytes.Clone(firm)
		one, is := Game(m)
		two, _ := Game(m)
		if !is || !sameGame(one, g) {
			t.Fatalf("with room behind: %s, %v; want %s", briefGame(one), is, briefGame(g))
		}
		apart(t, "a game", two)
		scribble(two)
		if !bytes.Equal(ram, ramWas) || !bytes.Equal(firm, firmWas) {
			t.Fatal("Game, or its answer, has changed what it was handed")
		}
		overwrite(m.RAM, 0xee)
		overwrite(m.ROM, 0xee)
		if !sameGame(one, g) {
			t.Fatal("a game has changed with another one, or with the machine")
		}
		if three, is := Game(want); !is || !sameGame(three, g) {
			t.Fatalf("behind answers that were written over: %s, %v", briefGame(three), is)
		}
	}
}

// P23.1, R5: a machine that stands for nothing is not changed either; what lies behind the end of RAM or ROM that is too short does not make it longer.
func TestNoGameKeepsNothing(t *testing.T) {
	d := uint64(1010)
	for k := range 4 {
		m, _ := atLoop(&d, 3)
		switch k {
		case 0:
			m.CPU.R[2]--
		case 1:
			m.RAM[511]++
		case 2:
			m.RAM = m.RAM[:4095]
		case 3:
			m.ROM = m.ROM[:511]
		}
		was := copyBoard(m)
		ramWas, firmWas := bytes.Clone(m.RAM[:cap(m.RAM)]), bytes.Clone(m.ROM[:cap(m.ROM)])
		wantNone(t, "a machine that lacks something", m)
		if !sameBoard(m, was) || !bytes.Equal(m.RAM[:cap(m.RAM)], ramWas) || !bytes.Equal(m.ROM[:cap(m.ROM)], firmWas) {
			t.Error("Game has changed what it was handed")
		}
	}
}

// stay are some orders that a machine goes on with.
func stay(d *uint64, calls int) api.Game {
	g := anyGame(d, calls)
	g.PC = 0x200
	copy(g.Memory, []byte{0x71, 0x01, 0x82, 0x14, 0xa3, 0x45, 0x12, 0x00})
	return g
}

// P23.2, R5: Follow changes nothing of the script, keeps nothing of it, and does not look behind its end.
func TestFollowKeepsNothing(t *testing.T) {
	d := uint64(1020)
	for range 10 {
		base := standing(t, withGame(jumps[draw(&d, 30)], stay(&d, 2)))
		want := anyKeys(&d, 3000)
		l, all := roomy(want, api.Span{Cycles: 7, Clear: true})
		allWas := slices.Clone(all)
		v, w := base.Clone(), base.Clone()
		got := mustFollow(t, v, want...)
		other, e := Follow(w, l)
		if e != api.OK || !slices.Equal(all, allWas) {
			t.Fatalf("Follow = %d, or has changed the script, or the room behind it", e)
		}
		overwrite(l, api.Span{Cycles: 3, DMAIn: true, Bus: 0xee})
		wantBeats(t, "the script written over", other, got)
		wantBeats(t, "behind a script that was written over", mustFollow(t, w, want...), mustFollow(t, v, want...))
	}
	// What is refused is not changed.
	for what, l := range wrongScripts() {
		was := slices.Clone(l)
		if _, e := Follow(standing(t, jumps[3]), l); e == api.OK || !slices.Equal(l, was) {
			t.Errorf("%s: Follow = %d, or has changed what it refused", what, e)
		}
	}
}

// P23.2, R5: beats share nothing with the machine, nor with another answer, nor with one another: each that is written over leaves the others, and the machine, as they are.
func TestBeatsShareNothing(t *testing.T) {
	d := uint64(1030)
	base := standing(t, withGame(jumps[9], stay(&d, 5)))
	v, w := base.Clone(), base.Clone()
	l := []api.Span{{Cycles: 3, Wait: true}, {Cycles: 1500}}
	kept := mustFollow(t, v, l...)
	want := copyBeats(kept)
	other, _ := Follow(w, l)
	// Where the machine is paused, and where it is looked at twice, games are alike, but not the same.
	if len(other) < 12 || !sameGame(other[0].Game, other[1].Game) {
		t.Fatalf("%d beats", len(other))
	}
	for k := range other {
		apart(t, "a beat's game", other[k].Game)
		scribble(other[k].Game)
		wantBeats(t, "the beats behind one that was written over", other[k+1:], want[k+1:])
	}
	overwrite(other, api.Beat{Cycle: 99})
	wantBeats(t, "another answer written over", kept, want)
	if m := w.State(); !sameBoard(m, v.State()) {
		t.Fatalf("beats written over: %s; want %s", brief(m), brief(v.State()))
	}
	next, more := mustFollow(t, v, l...), mustFollow(t, w, l...)
	wantBeats(t, "behind beats that were written over", more, next)
	wantBeats(t, "kept while the machine went on", kept, want)
}

// P23.3, R5: Lay changes nothing of the game, keeps nothing of it, and does not look behind its ends; machines share nothing with it, nor with one another, nor RAM with ROM.
func TestLayKeepsNothing(t *testing.T) {
	d := uint64(1040)
	for calls := range 13 {
		want := anyGame(&d, calls)
		g := copyGame(want)
		var stack []uint16
		var page, memory []byte
		g.Stack, stack = roomy(g.Stack, 0x7b7b)
		g.Page, page = roomy(g.Page, 0x7b)
		g.Memory, memory = roomy(g.Memory, 0x7b)
		stackWas, pageWas, memoryWas := slices.Clone(stack), bytes.Clone(page), bytes.Clone(memory)
		one, two := mustLay(t, g, calls), mustLay(t, g, calls)
		was := withGame(jumps[calls], want)
		if !sameBoard(one, was) || !sameBoard(two, was) {
			t.Fatalf("with room behind: %s; want %s", brief(one), brief(was))
		}
		overwrite(two.ROM, 0xee)
		if !bytes.Equal(two.RAM, was.RAM) {
			t.Fatal("RAM has changed with ROM")
		}
		copy(two.ROM, was.ROM)
		overwrite(two.RAM, 0xee)
		if !bytes.Equal(two.ROM, was.ROM) {
			t.Fatal("ROM has changed with RAM")
		}
		scribbleBoard(two)
		if !slices.Equal(stack, stackWas) || !bytes.Equal(page, pageWas) || !bytes.Equal(memory, memoryWas) {
			t.Fatal("Lay, or its answer, has changed the game, or the room behind it")
		}
		scribble(g)
		if !sameBoard(one, was) {
			t.Fatal("a machine has changed with another one, or with the game")
		}
		if three := mustLay(t, want, calls); !sameBoard(three, was) {
			t.Fatal("behind answers that were written over: another machine")
		}
	}
}

// P23.3, R5: lists that are too short do not grow by the room behind them; what is refused is not changed.
func TestLayRefusesAndKeepsNothing(t *testing.T) {
	d := uint64(1050)
	g := anyGame(&d, 12)
	was := copyGame(g)
	for _, wrong := range []api.Game{{Page: g.Page[:255], Memory: g.Memory}, {Page: g.Page, Memory: g.Memory[:3231]}, {Page: g.Memory[:256], Memory: g.Page}} {
		wantNoLay(t, "a list too short", wrong, 5, api.ErrGameState)
	}
	wantNoLay(t, "a number too great", g, 1001, api.ErrArg)
	if !sameGame(g, was) {
		t.Error("Lay has changed what it refused")
	}
}

// R3: a game without calls is the same, its stack being nil or empty.
func TestNilAndEmpty(t *testing.T) {
	for _, stack := range [][]uint16{nil, {}} {
		g, _ := game.New([]byte{0x12, 0x00})
		g.Stack = stack
		if m := mustLay(t, g, 4); !sameBoard(m, jumps[4]) {
			t.Error(brief(m))
		}
	}
}

// R6: all goroutines have ended when a call answers. (One that is about to end is given the time to.)
func TestGoroutinesEnd(t *testing.T) {
	d := uint64(1060)
	v := standing(t, withGame(jumps[2], stay(&d, 1)))
	ahead := runtime.NumGoroutine()
	for k := range 40 {
		if _, e := Follow(v, anyKeys(&d, 300)); e != api.OK {
			t.Fatal(e)
		}
		mustLay(t, stay(&d, 1), k)
		Follow(v, []api.Span{{}})
		for wait := 0; runtime.NumGoroutine() > ahead; wait++ {
			if wait == 2000 {
				t.Fatalf("%d goroutines, %d ahead of it", runtime.NumGoroutine(), ahead)
			}
			time.Sleep(time.Millisecond)
		}
	}
}

// R6, R7: calls know nothing of one another, though they are made at the same time; the same is answered to the same.
func TestSideBySide(t *testing.T) {
	d := uint64(1070)
	g := stay(&d, 7)
	m := mustLay(t, g, 25)
	l := anyKeys(&d, 3000)
	want := mustFollow(t, standing(t, m), l...)
	var all sync.WaitGroup
	for range 16 {
		v := standing(t, m)
		all.Go(func() {
			beats, e := Follow(v, l)
			h, is := Game(m)
			n, f := Lay(h, 25)
			if e != api.OK || f != api.OK || !is || len(beats) != len(want) || !sameGame(beats[len(beats)-1].Game, want[len(want)-1].Game) || !sameBoard(n, m) {
				t.Errorf("%d beats, %d, %d, %v, %s", len(beats), e, f, is, brief(n))
			}
		})
	}
	all.Wait()
}
