package view

import (
	"bytes"
	"fmt"
	"slices"
	"testing"

	"vesper/api"
	"vesper/board"
	"vesper/game"
	"vesper/inter"
	"vesper/rom"
	"vesper/snap"
	"vesper/vip"
)

const (
	frameCycles = 14 * 262
	twoFrames   = 2 * frameCycles // as long as a key must be down, and up, to be sure to count
)

// draw is a number below n, of a fixed row of numbers.
func draw(d *uint64, n int) int {
	*d = *d*6364136223846793005 + 1442695040888963407
	return int(*d >> 33 % uint64(n))
}

// mixed are so many bytes of all kinds.
func mixed(d *uint64, n int) []byte {
	b := make([]byte, n)
	for k := range b {
		b[k] = byte(draw(d, 256))
	}
	return b
}

// abreast does so many things beside one another.
func abreast(t *testing.T, n int, do func(t *testing.T, n int)) {
	for k := range n {
		t.Run(fmt.Sprint(k), func(t *testing.T) {
			t.Parallel()
			do(t, k)
		})
	}
}

// kit is what all machines have that stand for a game, made once.
type kit struct {
	inter, rom []byte
	font       api.Font
	fetch      uint16
}

var theKit = kit{inter.Bytes(), rom.Bytes(), rom.Font(), inter.Fetch()}

// jumps are how the machine that jumps on the spot stands at the beats 0 to 1000, found once, by looking at it in each of its cycles.
var jumps = findJumps()

func findJumps() []api.Board {
	b, _ := board.New(4096, theKit.rom, append(bytes.Clone(theKit.inter), 0x12, 0x00))
	var l []api.Board
	for len(l) <= 1000 {
		if s := b.State(); theKit.atFetch(s) {
			l = append(l, s)
		}
		b.Step(api.Span{Cycles: 1})
	}
	return l
}

// atFetch: the machine is at the fetch loop, by the chapter's words.
func (k kit) atFetch(m api.Board) bool {
	if board.Check(m) != api.OK || len(m.RAM) != 4096 || m.Latch {
		return false
	}
	for at, x := range k.inter {
		if m.RAM[at] != x {
			return false
		}
	}
	return string(m.ROM) == string(k.rom) && m.CPU.Phase == api.Fetch && m.CPU.R[m.CPU.P] == k.fetch
}

// stands is the game that a machine stands for, by the chapter's words: its bytes are fetched one by one.
func (k kit) stands(m api.Board) (api.Game, bool) {
	var depths []int
	for n := range 13 {
		if int(m.CPU.R[2])+2*n == 0x0ecf {
			depths = append(depths, n)
		}
	}
	if !k.atFetch(m) || len(depths) == 0 {
		return api.Game{}, false
	}
	g := api.Game{I: m.CPU.R[0xa], PC: m.CPU.R[5], Delay: byte(m.CPU.R[8] / 256), Sound: byte(m.CPU.R[8] % 256)}
	for at, x := range m.RAM {
		switch {
		case 0x0ef0 <= at && at <= 0x0eff:
			g.V[at-0x0ef0] = x
		case 0x0f00 <= at:
			g.Page = append(g.Page, x)
		case 0x0200 <= at && at <= 0x0e9f:
			g.Memory = append(g.Memory, x)
		}
	}
	for n := range depths[0] {
		g.Stack = append(g.Stack, uint16(m.RAM[0x0ecf-2*n])+256*uint16(m.RAM[0x0ece-2*n]))
	}
	return g, true
}

// stack has games' return addresses in their places, and R2.
func stack(m *api.Board, l ...uint16) {
	at := 0x0ecf
	for _, w := range l {
		m.RAM[at] = byte(w % 256)
		at--
		m.RAM[at] = byte(w / 256)
		at--
	}
	m.CPU.R[2] = uint16(at)
}

// withGame is a machine that has a game in its places, by the chapter's words.
func withGame(m api.Board, g api.Game) api.Board {
	m = copyBoard(m)
	stack(&m, g.Stack...)
	for k := range 16 {
		m.RAM[0x0ef0+k] = g.V[k]
	}
	for k := range 256 {
		m.RAM[0x0f00+k] = g.Page[k]
	}
	for k := range 3232 {
		m.RAM[0x0200+k] = g.Memory[k]
	}
	m.CPU.R[0xa], m.CPU.R[5], m.CPU.R[8] = g.I, g.PC, 256*uint16(g.Delay)+uint16(g.Sound)
	return m
}

// anyByte is an edge, or any one.
func anyByte(d *uint64) byte {
	edges := []byte{0, 1, 2, 9, 10, 15, 16, 31, 32, 63, 64, 99, 100, 127, 128, 199, 200, 254, 255}
	if draw(d, 2) == 0 {
		return edges[draw(d, len(edges))]
	}
	return byte(draw(d, 256))
}

// anyWord is one about the edges of what lies anywhere, or any one.
func anyWord(d *uint64) uint16 {
	edges := []uint16{0, 1, 0xff, 0x100, 0x1ff, 0x200, 0xe9f, 0xea0, 0xeff, 0xf00, 0xfff, 0x1000, 0x7fff, 0x8000, 0xff00, 0xfffe, 0xffff}
	if draw(d, 2) == 0 {
		return edges[draw(d, len(edges))]
	}
	return uint16(draw(d, 65536))
}

// anyGame is a game of all kinds, with as many calls; all of its memory is full.
func anyGame(d *uint64, calls int) api.Game {
	g := api.Game{I: anyWord(d), PC: anyWord(d), Delay: anyByte(d), Sound: anyByte(d), Page: mixed(d, 256), Memory: mixed(d, 3232)}
	for k := range g.V {
		g.V[k] = anyByte(d)
	}
	for range calls {
		g.Stack = append(g.Stack, anyWord(d))
	}
	return g
}

// gameVIP is a machine that plays a program, at power on.
func gameVIP(t *testing.T, program ...byte) *vip.VIP {
	t.Helper()
	c, e := vip.Game(program)
	if e != api.OK {
		t.Fatalf("vip.Game of %d bytes = %d", len(program), e)
	}
	v, e := vip.New(c)
	if e != api.OK {
		t.Fatalf("vip.New = %d", e)
	}
	return v
}

// standing is a machine that stands so.
func standing(t *testing.T, m api.Board) *vip.VIP {
	t.Helper()
	b, e := snap.Save(m)
	if e != api.OK {
		t.Fatalf("snap.Save of %s = %d", brief(m), e)
	}
	v, e := vip.Load(b)
	if e != api.OK {
		t.Fatalf("vip.Load = %d", e)
	}
	return v
}

func mustLay(t *testing.T, g api.Game, beats int) api.Board {
	t.Helper()
	m, e := Lay(g, beats)
	if e != api.OK {
		t.Fatalf("Lay of %s at %d = %d", briefGame(g), beats, e)
	}
	return m
}

// twinBeats are a script's beats, of a machine that is played cycle by cycle and looked at ahead of each one and at the end; and how it stands then.
func twinBeats(v *vip.VIP, l []api.Span) ([]api.Beat, api.Board) {
	b := v.Board.Clone()
	var beats []api.Beat
	n := 0
	look := func() {
		if g, is := theKit.stands(b.State()); is {
			beats = append(beats, api.Beat{Cycle: uint64(n), Game: g})
		}
	}
	for _, s := range l {
		for range s.Cycles {
			look()
			b.Step(s)
			n++
		}
	}
	look()
	return beats, b.State()
}

// mustFollow follows a script that may be, and holds what is told, and how the machine stands behind it, against the twin.
func mustFollow(t *testing.T, v *vip.VIP, l ...api.Span) []api.Beat {
	t.Helper()
	want, behind := twinBeats(v, l)
	got, e := Follow(v, l)
	if e != api.OK {
		t.Fatalf("Follow of %v = %d", l, e)
	}
	wantBeats(t, "beside the twin", got, want)
	if m := v.State(); !sameBoard(m, behind) {
		t.Fatalf("behind the script: %s; want %s", brief(m), brief(behind))
	}
	return got
}

func wantBeats(t *testing.T, what string, got, want []api.Beat) {
	t.Helper()
	for k := range min(len(got), len(want)) {
		if got[k].Cycle != want[k].Cycle || !sameGame(got[k].Game, want[k].Game) {
			t.Fatalf("%s: the beat %d behind %d cycles, %s; want behind %d, %s", what, k, got[k].Cycle, briefGame(got[k].Game), want[k].Cycle, briefGame(want[k].Game))
		}
	}
	if len(got) != len(want) {
		t.Fatalf("%s: %d beats; want %d", what, len(got), len(want))
	}
}

// In what follows nil and empty lists are the same.

func sameBoard(a, b api.Board) bool {
	return a.CPU == b.CPU && a.Raster == b.Raster && a.Pad == b.Pad && a.Latch == b.Latch && a.Cycles == b.Cycles &&
		bytes.Equal(a.RAM, b.RAM) && bytes.Equal(a.ROM, b.ROM)
}

func sameGame(g, h api.Game) bool {
	return g.V == h.V && g.I == h.I && g.PC == h.PC && g.Delay == h.Delay && g.Sound == h.Sound &&
		slices.Equal(g.Stack, h.Stack) && bytes.Equal(g.Page, h.Page) && bytes.Equal(g.Memory, h.Memory)
}

func isNoGame(g api.Game) bool { return sameGame(g, api.Game{}) }

// Copies share nothing with what they are copies of.

func copyBoard(m api.Board) api.Board {
	m.RAM, m.ROM = slices.Clone(m.RAM), slices.Clone(m.ROM)
	return m
}

func copyGame(g api.Game) api.Game {
	g.Stack, g.Page, g.Memory = slices.Clone(g.Stack), slices.Clone(g.Page), slices.Clone(g.Memory)
	return g
}

func copyBeats(l []api.Beat) []api.Beat {
	l = slices.Clone(l)
	for k := range l {
		l[k].Game = copyGame(l[k].Game)
	}
	return l
}

// brief is a machine without its bytes, for what a test tells; briefGame a game without its page and memory.
func brief(m api.Board) string {
	return fmt.Sprintf("%04x %v %v pad %d latch %v, %d and %d bytes, %d cycles", m.CPU.R, m.CPU, m.Raster, m.Pad.Latch, m.Latch, len(m.RAM), len(m.ROM), m.Cycles)
}

func briefGame(g api.Game) string {
	return fmt.Sprintf("V %x I %04x PC %04x stack %04x timers %d %d, %d and %d bytes", g.V, g.I, g.PC, g.Stack, g.Delay, g.Sound, len(g.Page), len(g.Memory))
}

// The chapter's first row: sums.
func TestSumsExample(t *testing.T) {
	l := mustFollow(t, gameVIP(t, 0x61, 0x05, 0x62, 0xff, 0x82, 0x14, 0x63, 0x07, 0x83, 0x25, 0x12, 0x0a), api.Span{Cycles: 40000})
	if len(l) < 20 {
		t.Fatalf("%d beats", len(l))
	}
	for k, beat := range l {
		if want := uint16(0x200 + 2*min(k, 5)); beat.Game.PC != want {
			t.Errorf("the beat %d: PC %04x, want %04x", k, beat.Game.PC, want)
		}
	}
	if v := l[3].Game.V; v[1] != 5 || v[2] != 4 || v[15] != 1 {
		t.Errorf("at the fourth: V %x", v)
	}
	if v := l[5].Game.V; v[3] != 3 || v[15] != 1 {
		t.Errorf("at the sixth: V %x", v)
	}
}

// The chapter's second row: a key.
func TestKeyExample(t *testing.T) {
	l := mustFollow(t, gameVIP(t, 0xf0, 0x0a, 0x12, 0x02), api.Span{Cycles: 30000}, api.Span{Cycles: 8000, Keys: 1 << 7}, api.Span{Cycles: 20000})
	if len(l) < 2 || l[0].Game.PC != 0x200 || l[1].Game.PC != 0x202 || l[1].Game.V[0] != 7 {
		t.Fatalf("%d beats, or others", len(l))
	}
}

// The chapter's rows of Lay, and of that machine with R2 one more.
func TestLayExample(t *testing.T) {
	g, _ := game.New(nil)
	g.I, g.Stack, g.Delay = 0x1234, []uint16{0x222, 0x344}, 200
	m := mustLay(t, g, 0)
	if !bytes.Equal(m.RAM[0xecc:0xed0], []byte{0x03, 0x44, 0x02, 0x22}) {
		t.Errorf("the stack: %x", m.RAM[0xecc:0xed0])
	}
	if r := m.CPU.R; r[2] != 0xecb || r[10] != 0x1234 || r[8] != 0xc800 {
		t.Errorf("registers %04x", r)
	}
	m.CPU.R[2]++
	if h, is := Game(m); is || !isNoGame(h) {
		t.Errorf("R2 one more: %s, %v", briefGame(h), is)
	}
}

// The chapter's rows of what is refused.
func TestRefusedExamples(t *testing.T) {
	v, _ := vip.New(api.Config{RAM: 2048, ROM: theKit.rom})
	if l, e := Follow(v, []api.Span{{Cycles: 9}}); e != api.ErrViewConfig || len(l) != 0 {
		t.Errorf("Follow of 2048 bytes: %d beats, %d", len(l), e)
	}
	g, _ := game.New(nil)
	if m, e := Lay(g, 1001); e != api.ErrArg || !sameBoard(m, api.Board{}) {
		t.Errorf("Lay with 1001 beats: %s, %d", brief(m), e)
	}
}
