package vip

import (
	"bytes"
	"fmt"
	"slices"
	"testing"

	"vesper/api"
	"vesper/board"
	"vesper/frame"
	"vesper/snap"
	"vesper/tone"
)

// whole is how many cycles a frame has.
const whole = 14 * 262

// place is how many cycles into a frame a cycle of a line is.
func place(line, cycle int) int { return 14*line + cycle }

// draw is a number below n, of a fixed row of numbers.
func draw(d *uint64, n int) int {
	*d = *d*6364136223846793005 + 1442695040888963407
	return int(*d >> 33 % uint64(n))
}

// mixed are so many bytes of all kinds.
func mixed(d *uint64, n int) []byte {
	b := make([]byte, n)
	for k := range b {
		b[k] = byte(draw(d, 256))
	}
	return b
}

// code is ROM and RAM that begin alike: what runs in the one goes on in the other.
func code(l ...byte) api.Config {
	b := make([]byte, 512)
	copy(b, l)
	return api.Config{RAM: 2048, ROM: b, Image: l}
}

// shining is the chapter's machine: Q goes high in record 6, then the chip is switched on.
func shining() api.Config {
	return code(0x64, 0x00, 0xe1, 0x7b, 0xf8, 0x09, 0xa3, 0xd3, 0x00, 0x69, 0x30, 0x0a)
}

func mustNew(t *testing.T, c api.Config) *VIP {
	t.Helper()
	v, e := New(c)
	if e != api.OK || v == nil {
		t.Fatalf("New of %d bytes of RAM, %d of ROM, an image of %d = %d", c.RAM, len(c.ROM), len(c.Image), e)
	}
	return v
}

// standing is a machine that stands so.
func standing(t *testing.T, m api.Board) *VIP {
	t.Helper()
	b, e := snap.Save(m)
	if e != api.OK {
		t.Fatalf("snap.Save of %s = %d", brief(m), e)
	}
	return mustLoad(t, b)
}

func mustLoad(t *testing.T, b []byte) *VIP {
	t.Helper()
	v, e := Load(b)
	if e != api.OK || v == nil {
		t.Fatalf("Load of %d bytes = %d", len(b), e)
	}
	return v
}

func mustSave(t *testing.T, v *VIP) []byte {
	t.Helper()
	b, e := v.Save()
	if e != api.OK {
		t.Fatalf("Save of %s = %d", brief(v.State()), e)
	}
	return b
}

// twinTakes is whether a cycle ahead of which the raster stood so gave the chip its byte, by the words of DOC.md's video chip.
func twinTakes(r api.Raster, c api.Record) bool {
	return r.On && 80 <= r.Line && r.Line <= 207 && r.Cycle >= 2 && r.Got < 8 && c.Code == api.S2 && c.Read
}

// twinFilm is what a script shows on a board, which is looked at in each of its cycles.
func twinFilm(b *board.Board, l []api.Span) api.Film {
	var f api.Film
	var on api.Frame
	begun := false
	for _, s := range l {
		for range s.Cycles {
			r := b.State().Raster
			if r.Line == 0 && r.Cycle == 0 {
				on, begun = api.Frame{From: len(f.Records), Rows: make([][]byte, 128)}, true
			}
			c := b.Step(s)
			f.Records = append(f.Records, c)
			if begun && twinTakes(r, c) {
				on.Rows[r.Line-80] = append(on.Rows[r.Line-80], c.Data)
			}
			if begun && r.Line == 261 && r.Cycle == 13 {
				on.Short = len(slices.Concat(on.Rows...)) < 1024
				f.Frames = append(f.Frames, on)
			}
		}
	}
	for k, c := range f.Records {
		if c.Q && (k == 0 || !f.Records[k-1].Q) {
			f.Beeps = append(f.Beeps, api.Beep{From: k})
		}
		if c.Q {
			f.Beeps[len(f.Beeps)-1].To = k + 1
		}
	}
	return f
}

// mustPlay plays a script that may be, and holds what is told against the twin, and against what board, frame and tone tell of it.
func mustPlay(t *testing.T, v *VIP, l ...api.Span) api.Film {
	t.Helper()
	ahead := v.State()
	one, two := mustFrom(t, ahead), mustFrom(t, ahead)
	got, e := v.Play(l)
	if e != api.OK {
		t.Fatalf("Play of %v = %d", l, e)
	}
	wantFilm(t, "beside the twin's", got, twinFilm(one, l))
	wantStand(t, "behind the twin's script", v, one.State())
	records, _ := two.Run(l)
	frames, _ := frame.Of(ahead.Raster, records)
	wantFilm(t, "beside board's, frame's and tone's", got, api.Film{Records: records, Frames: frames, Beeps: tone.Beeps(records)})
	wantStand(t, "behind the board's script", v, two.State())
	return got
}

func mustFrom(t *testing.T, m api.Board) *board.Board {
	t.Helper()
	b, e := board.From(m)
	if e != api.OK {
		t.Fatalf("board.From of %s = %d", brief(m), e)
	}
	return b
}

// wantFilm holds two films against each other.
func wantFilm(t *testing.T, what string, got, want api.Film) {
	t.Helper()
	for k := range min(len(got.Records), len(want.Records)) {
		if got.Records[k] != want.Records[k] {
			t.Fatalf("%s: record %d is %v; want %v", what, k, got.Records[k], want.Records[k])
		}
	}
	if !sameFilm(got, want) {
		t.Fatalf("%s: %s; want %s", what, briefFilm(got), briefFilm(want))
	}
}

// wantStand holds how a machine stands against that.
func wantStand(t *testing.T, what string, v *VIP, want api.Board) {
	t.Helper()
	if got := v.State(); !sameBoard(got, want) {
		t.Fatalf("%s: %s; want %s", what, brief(got), brief(want))
	}
}

// wantSame: two machines stand alike.
func wantSame(t *testing.T, what string, v, w *VIP) {
	t.Helper()
	wantStand(t, what, v, w.State())
}

// In what follows nil and empty lists are the same.

func sameBoard(a, b api.Board) bool {
	return a.CPU == b.CPU && a.Raster == b.Raster && a.Pad == b.Pad && a.Latch == b.Latch && a.Cycles == b.Cycles &&
		bytes.Equal(a.RAM, b.RAM) && bytes.Equal(a.ROM, b.ROM)
}

func sameFilm(a, b api.Film) bool {
	return slices.Equal(a.Records, b.Records) && slices.EqualFunc(a.Frames, b.Frames, sameFrame) && slices.Equal(a.Beeps, b.Beeps)
}

func sameFrame(a, b api.Frame) bool {
	return a.From == b.From && a.Short == b.Short && slices.EqualFunc(a.Rows, b.Rows, slices.Equal)
}

func sameConfig(a, b api.Config) bool {
	return a.RAM == b.RAM && bytes.Equal(a.ROM, b.ROM) && bytes.Equal(a.Image, b.Image)
}

// Copies share nothing with what they are copies of.

func copyBoard(m api.Board) api.Board {
	m.RAM, m.ROM = slices.Clone(m.RAM), slices.Clone(m.ROM)
	return m
}

func copyFilm(f api.Film) api.Film {
	frames := slices.Clone(f.Frames)
	for k := range frames {
		rows := slices.Clone(frames[k].Rows)
		for i := range rows {
			rows[i] = slices.Clone(rows[i])
		}
		frames[k].Rows = rows
	}
	return api.Film{Records: slices.Clone(f.Records), Frames: frames, Beeps: slices.Clone(f.Beeps)}
}

func copyConfig(c api.Config) api.Config {
	c.ROM, c.Image = slices.Clone(c.ROM), slices.Clone(c.Image)
	return c
}

// brief is a machine without its bytes, for what a test tells; briefFilm a film in few words.
func brief(m api.Board) string {
	return fmt.Sprintf("%v %v pad %d latch %v, %d and %d bytes, %d cycles", m.CPU, m.Raster, m.Pad.Latch, m.Latch, len(m.RAM), len(m.ROM), m.Cycles)
}

func briefFilm(f api.Film) string {
	s := fmt.Sprintf("%d records, beeps %.200v, frames", len(f.Records), f.Beeps)
	for _, one := range f.Frames {
		s += fmt.Sprintf(" %d(%d bytes, short %v)", one.From, len(slices.Concat(one.Rows...)), one.Short)
	}
	return s
}

func isZeroFilm(f api.Film) bool {
	return len(f.Records) == 0 && len(f.Frames) == 0 && len(f.Beeps) == 0
}

// The chapter's rows of Play and State.
func TestPlayExamples(t *testing.T) {
	v := mustNew(t, shining())
	f := mustPlay(t, v, api.Span{Cycles: 9})
	if len(f.Records) != 9 || len(f.Frames) != 0 {
		t.Errorf("Play of 9 cycles: %s", briefFilm(f))
	}
	if want := (api.Record{Code: api.S1, Address: 4, Q: true}); f.Records[6] != want || f.Records[5].Q {
		t.Errorf("record 6: %v; want %v", f.Records[6], want)
	}
	if !slices.Equal(f.Beeps, []api.Beep{{From: 6, To: 9}}) {
		t.Errorf("beeps: %v", f.Beeps)
	}
	f = mustPlay(t, v, api.Span{Cycles: 7336})
	if len(f.Records) != 7336 || len(f.Frames) != 1 || f.Frames[0].From != 3659 || f.Frames[0].Short {
		t.Errorf("then Play of 7336 cycles: %s", briefFilm(f))
	}
	m := v.State()
	if m.Cycles != 7345 || m.Raster != (api.Raster{Line: 0, Cycle: 9, On: true}) {
		t.Errorf("then State: %s", brief(m))
	}
	if f, e := v.Play([]api.Span{{}}); e != api.ErrScriptSpan || !isZeroFilm(f) {
		t.Errorf("Play of a span of 0 cycles: %s, %d", briefFilm(f), e)
	}
	wantStand(t, "behind a span of 0 cycles", v, m)
}

// The chapter's rows of New and Game.
func TestConfigExamples(t *testing.T) {
	c := shining()
	c.RAM = 2049
	if v, e := New(c); v != nil || e != api.ErrVIPConfig {
		t.Errorf("New of 2049 bytes: %v, %d", v, e)
	}
	if c, e := Game(make([]byte, 3233)); e != api.ErrVIPProgram || !sameConfig(c, api.Config{}) {
		t.Errorf("Game of 3233 bytes: %d", e)
	}
	if c, e := Game([]byte{0x12, 0x00}); e != api.OK || c.RAM != 4096 || len(c.Image) != 514 {
		t.Errorf("Game of 12 00: %d, an image of %d, %d", c.RAM, len(c.Image), e)
	}
}

// DOC.md's example 9: a machine of 4096 bytes is kept, played on, loaded again.
func TestKeptExample(t *testing.T) {
	v := mustNew(t, api.Config{RAM: 4096, ROM: make([]byte, 512)})
	mustPlay(t, v, api.Span{Cycles: 500})
	here := mustSave(t, v)
	if len(here) != 4679 {
		t.Errorf("kept %d", len(here))
	}
	mustPlay(t, v, api.Span{Cycles: 500})
	if other := mustSave(t, v); bytes.Equal(other, here) {
		t.Error("played on: same")
	}
	if again := mustSave(t, mustLoad(t, here)); !bytes.Equal(again, here) {
		t.Error("loaded: other")
	}
}
