package inter

import (
	"bytes"
	"fmt"
	"slices"
	"testing"

	"vesper/api"
	"vesper/asm"
	"vesper/board"
	"vesper/game"
	"vesper/rom"
)

const (
	frameCycles = api.LineCycles * api.Lines
	twoFrames   = 2 * frameCycles // as long as a key must be down, and up, to be sure to count
	firstCycles = 20000           // within which the interpreter has begun
	keyC        = 1 << 12
)

// draw is a number below n, of a fixed row of numbers.
func draw(d *uint64, n int) int {
	*d = *d*6364136223846793005 + 1442695040888963407
	return int(*d >> 33 % uint64(n))
}

// mixed are so many bytes of all kinds.
func mixed(d *uint64, n int) []byte {
	b := make([]byte, n)
	for k := range b {
		b[k] = byte(draw(d, 256))
	}
	return b
}

// abreast does so many things beside one another.
func abreast(t *testing.T, n int, do func(t *testing.T, n int)) {
	for k := range n {
		t.Run(fmt.Sprint(k), func(t *testing.T) {
			t.Parallel()
			do(t, k)
		})
	}
}

// kit is what all machines have, made once.
type kit struct {
	inter, rom []byte
	font       api.Font
	fetch      uint16
	refresh    uint16 // where the refresh routine begins
}

func newKit() kit {
	at, _ := asm.Find(api.Object{Labels: rom.Labels()}, "refresh")
	return kit{Bytes(), rom.Bytes(), rom.Font(), Fetch(), uint16(at)}
}

var theKit = newKit()

// machine is one with the interpreter, played by scripts in which nothing is asked for and all that may change does.
type machine struct {
	*board.Board
	kit
	t      *testing.T
	noise  uint64
	keys   uint16
	inside bool // the refresh routine is under way
	begun  bool // there was a beat
}

// power is one with a program, at power on.
func power(t *testing.T, program []byte) *machine {
	t.Helper()
	b, e := board.New(api.InterRAM, rom.Bytes(), append(Bytes(), program...))
	if e != api.OK {
		t.Fatalf("board.New with %d bytes: %d", len(program), e)
	}
	return &machine{Board: b, kit: theKit, t: t, noise: uint64(len(program))}
}

// tick is a cycle. What the interpreter never does is looked for in each.
func (m *machine) tick() api.Record {
	n := draw(&m.noise, 1024)
	r := m.Step(api.Span{Cycles: 1, Keys: m.keys, Bus: byte(n), Tape: n&256 != 0, Flag: n&512 != 0})
	if r.Write && r.Address < api.InterSize {
		m.t.Errorf("%02x is written to %04x", r.Data, r.Address)
	}
	switch {
	case r.Code == api.S3:
		m.inside = true
	case r.Code == api.S0 && r.Address < api.ROMAt:
		m.inside = false
		if r.Data>>4 == 0xc && m.begun {
			m.t.Errorf("%02x is done at %04x", r.Data, r.Address)
		}
	}
	return r
}

// passed is what lies between two beats.
type passed struct {
	cycles int
	own    int // without the refresh routine's
	ticks  int // interrupts
}

// beat goes on to the next beat, and one cycle further: the fetch loop's first instruction has been fetched then. So beats are found by their records, and what the machine stands for has not changed.
func (m *machine) beat(most int) (passed, bool) {
	var p passed
	for p.cycles < most {
		r := m.tick()
		p.cycles++
		if r.Code == api.S3 {
			p.ticks++
		}
		if !m.inside {
			p.own++
		}
		if r.Code == api.S0 && r.Address == m.fetch {
			m.begun = true
			return p, true
		}
	}
	return p, false
}

// begun is a machine with a program at its first beat.
func begun(t *testing.T, program []byte) *machine {
	t.Helper()
	m := power(t, program)
	if _, came := m.beat(firstCycles + 1); !came {
		t.Fatal("it has not come to its fetch loop")
	}
	return m
}

// atBeat is how the machine stood ahead of the cycle in which the fetch loop's first instruction was fetched, as far as it matters.
func (m *machine) atBeat() api.Board {
	s := m.State()
	s.CPU.R[s.CPU.P]--
	s.CPU.Phase = api.Fetch
	return s
}

// stands is the game that a machine stands for (chapter 23); false, if it is not at the fetch loop.
func (k kit) stands(s api.Board) (api.Game, bool) {
	c := s.CPU
	if board.Check(s) != api.OK || len(s.RAM) != api.InterRAM || s.Latch || !bytes.Equal(s.RAM[:api.InterSize], k.inter) || !bytes.Equal(s.ROM, k.rom) {
		return api.Game{}, false
	}
	down := api.StackAt - int(c.R[2])
	if c.Phase != api.Fetch || c.R[c.P] != k.fetch || down < 0 || down > 2*api.MaxCalls || down%2 != 0 {
		return api.Game{}, false
	}
	g := api.Game{
		I: c.R[10], PC: c.R[5], Delay: byte(c.R[8] >> 8), Sound: byte(c.R[8]),
		Page: slices.Clone(s.RAM[api.PageAt:]), Memory: slices.Clone(s.RAM[api.ProgramAt : api.ProgramAt+api.ProgramSize]),
	}
	copy(g.V[:], s.RAM[api.VarsAt:])
	for a := api.StackAt; a > int(c.R[2]); a -= 2 {
		g.Stack = append(g.Stack, uint16(s.RAM[a-1])<<8|uint16(s.RAM[a]))
	}
	return g, true
}

// game is what the machine stands for at a beat; there it must have its registers as the chapter says, and the chip on.
func (m *machine) game() api.Game {
	m.t.Helper()
	s := m.atBeat()
	g, is := m.stands(s)
	c := s.CPU
	if !is || c.P < 2 || !c.IE || c.R[1] != m.refresh || c.R[11]>>8 != 0x0f || !s.Raster.On {
		m.t.Fatalf("it stands for a game: %v; P %x, IE %v, registers %04x, the chip on %v", is, c.P, c.IE, c.R, s.Raster.On)
	}
	return g
}

// lay lets a machine at a beat stand for a game.
func (m *machine) lay(g api.Game) {
	m.t.Helper()
	s := m.State()
	s.CPU.R[10], s.CPU.R[5], s.CPU.R[8] = g.I, g.PC, uint16(g.Delay)<<8|uint16(g.Sound)
	s.CPU.R[2] = uint16(api.StackAt - 2*len(g.Stack))
	for k, w := range g.Stack {
		s.RAM[api.StackAt-2*k], s.RAM[api.StackAt-2*k-1] = byte(w), byte(w>>8)
	}
	copy(s.RAM[api.VarsAt:], g.V[:])
	copy(s.RAM[api.PageAt:], g.Page)
	copy(s.RAM[api.ProgramAt:], g.Memory)
	m.keep(s)
}

// keep lets the machine stand so.
func (m *machine) keep(s api.Board) {
	m.t.Helper()
	b, e := board.From(s)
	if e != api.OK {
		m.t.Fatalf("board.From: %d", e)
	}
	m.Board = b
}

// interruptIn moves the raster of a machine at a beat, so that INT is asked for behind so many cycles, 1820 at most.
func (m *machine) interruptIn(cycles int) {
	m.t.Helper()
	const asked = 78 * api.LineCycles
	s := m.State()
	at := (asked - cycles + frameCycles) % frameCycles
	s.Raster.Line, s.Raster.Cycle, s.Raster.Got = at/api.LineCycles, at%api.LineCycles, 0
	m.keep(s)
}

// same: two games are alike, nil and empty lists being the same.
func same(g, h api.Game) bool {
	return g.V == h.V && g.I == h.I && g.PC == h.PC && g.Delay == h.Delay && g.Sound == h.Sound &&
		slices.Equal(g.Stack, h.Stack) && bytes.Equal(g.Page, h.Page) && bytes.Equal(g.Memory, h.Memory)
}

// ticked is a game behind so many ticks.
func ticked(g api.Game, n int) api.Game {
	for range n {
		g = game.Tick(g)
	}
	return g
}

// behind: h is the game behind the order of g, so many ticks lying ahead of it or behind it.
func (k kit) behind(g, h api.Game, f api.Feed, ticks int) bool {
	for n := range ticks + 1 {
		w, out, e := game.Step(ticked(g, n), k.font, f)
		if e == api.OK && out == api.Done && same(ticked(w, ticks-n), h) {
			return true
		}
	}
	return false
}

// isDone: the order of a game is done, whatever it is fed.
func (k kit) isDone(g api.Game) bool {
	_, out, e := game.Step(g, k.font, api.Feed{})
	return e == api.OK && out == api.Done
}

// feed is that by which VX came to be what it is, by a lot or a key.
func feed(vx byte, keys uint16) api.Feed {
	f := api.Feed{Random: vx, Keys: keys, Key: -1}
	if vx < 16 {
		f.Key = int(vx)
	}
	return f
}

// order lets the machine do one order, whatever the keys are; it must be done in time, and be what game.Step says.
func (m *machine) order() passed {
	m.t.Helper()
	g := m.game()
	o, out := game.Next(g)
	if out != api.Done {
		m.t.Fatalf("PC %04x: no order, outcome %d", g.PC, out)
	}
	p, came := m.beat(Bound(o))
	if !came {
		m.t.Fatalf("the order %+v is not done in %d cycles", o, p.cycles)
	}
	h := m.game()
	if !m.behind(g, h, feed(h.V[o.X], m.keys), p.ticks) {
		m.t.Fatalf("the order %+v, %d ticks\nV %x I %04x PC %04x stack %04x timers %d %d\nV %x I %04x PC %04x stack %04x timers %d %d",
			o, p.ticks, g.V, g.I, g.PC, g.Stack, g.Delay, g.Sound, h.V, h.I, h.PC, h.Stack, h.Delay, h.Sound)
	}
	return p
}
