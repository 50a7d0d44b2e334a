package inter

import (
	"fmt"
	"slices"
	"strings"
	"testing"

	"vesper/api"
	"vesper/ops"
)

// beats are the games for which a machine stands ahead of each of so many cycles, by its state.
func (m *machine) beats(cycles int) []api.Game {
	var l []api.Game
	for range cycles {
		if g, is := m.stands(m.State()); is {
			l = append(l, g)
		}
		m.tick()
	}
	return l
}

// The chapter's examples, row by row.
func TestExamples(t *testing.T) {
	var got []string
	for _, g := range power(t, []byte{0x60, 0x05, 0x70, 0x03, 0x12, 0x04}).beats(8000) {
		got = append(got, fmt.Sprintf("%04x %d", g.PC, g.V[0]))
	}
	want := []string{"0200 0", "0202 5", "0204 8", "0204 8"}
	for len(want) < len(got) {
		want = append(want, "0204 8")
	}
	if !slices.Equal(got, want) {
		t.Errorf("the first row: %v", got)
	}

	m := power(t, []byte{0xf0, 0x0a, 0x12, 0x02})
	if l := m.beats(20000); len(l) != 1 || l[0].PC != 0x200 {
		t.Errorf("the second row: %d beats", len(l))
	}
	m.keys = 1 << 7
	if l := m.beats(twoFrames); len(l) != 0 {
		t.Errorf("the second row, 7 down: %d beats", len(l))
	}
	m.keys = 0
	if l := m.beats(twoFrames + keyBound); len(l) == 0 || l[0].PC != 0x202 || l[0].V[0] != 7 {
		t.Errorf("the second row, 7 up: %d beats", len(l))
	}

	m = begun(t, []byte{0x00, 0xe0})
	if _, came := m.beat(20000); !came {
		t.Error("the third row: no beat")
	}

	if a, b := Bound(api.Order{Op: api.OpMachine}), Bound(api.Order{}); a != 0 || b != 0 {
		t.Errorf("the fourth row: %d, %d", a, b)
	}
}

// whole plays a program, from power on, for so many cycles, with a key down from one of them on up to another; what it stands for at the next beat.
func whole(t *testing.T, program string, cycles int, key uint16, down, up int) api.Game {
	t.Helper()
	b, e, line := ops.Program(strings.ReplaceAll(program, ", ", "\n"))
	if e != api.OK {
		t.Fatalf("the line %d: %d", line, e)
	}
	m := power(t, b)
	for n := range cycles {
		m.keys = 0
		if n >= down && n < up {
			m.keys = key
		}
		m.tick()
	}
	m.begun = true
	if _, came := m.beat(2000); !came {
		t.Fatal("no beat")
	}
	return m.game()
}

// DOC.md's examples of the whole that are the interpreter's, the fourth to the eighth.
func TestExamplesOfTheWhole(t *testing.T) {
	g := whole(t, "set v0 05, up:, add v0 01, skip-is v0 09, jump to up, stay:, jump to stay", 60000, 0, 0, 0)
	if g.PC != 0x208 || g.V != [16]byte{9} || string(g.Memory[:10]) != "\x60\x05\x70\x01\x30\x09\x12\x02\x12\x08" {
		t.Errorf("the fourth: PC %04x, V %x", g.PC, g.V)
	}
	g = whole(t, "set v0 07, set v1 04, set v2 08, digit v0, draw v1 v2 5, stay:, jump to stay", 90000, 0, 0, 0)
	page := [256]byte{64: 0x0f, 72: 0x01, 80: 0x01, 88: 0x01, 96: 0x01}
	if string(g.Page) != string(page[:]) {
		t.Errorf("the fifth: %x", g.Page)
	}
	g = whole(t, "key v3, stay:, jump to stay", 82000, 1<<11, 60000, 68000)
	if g.PC != 0x202 || g.V != [16]byte{3: 11} {
		t.Errorf("the sixth: PC %04x, V %x", g.PC, g.V)
	}
	g = whole(t, "set v5 fe, point 300, call to split, stay:, jump to stay, split:, three v5, return", 60000, 0, 0, 0)
	if g.PC != 0x206 || g.I != 0x300 || len(g.Stack) != 0 || string(g.Memory[0x100:0x103]) != "\x02\x05\x04" || g.V != [16]byte{5: 0xfe} {
		t.Errorf("the seventh: PC %04x, I %04x, V %x", g.PC, g.I, g.V)
	}
	g = whole(t, "set v1 05, set v2 ff, plus v2 v1, delay v1, sound v1, stay:, jump to stay", 90000, 0, 0, 0)
	if g.PC != 0x20a || g.Delay != 0 || g.Sound != 0 || g.V != [16]byte{1: 5, 2: 4, 15: 1} {
		t.Errorf("the eighth: PC %04x, timers %d %d, V %x", g.PC, g.Delay, g.Sound, g.V)
	}
}
