package game

import (
	"bytes"
	"math"
	"testing"

	"vesper/api"
)

// places of I, about the edges of the memory, of the chapter's font and of all addresses.
var edges = []uint16{0, 1, 0x1f0, 0x1f1, 0x1fd, 0x1fe, 0x1ff, 0x200, 0x201, 0x202, 0x700, 0xe8f, 0xe90, 0xe91, 0xe9c, 0xe9d, 0xe9e, 0xe9f, 0xea0, 0xef0, 0x7fff, 0x8000, 0x8040, 0x8041, 0x804b, 0x804c, 0x804f, 0x8050, 0xfff0, 0xfff1, 0xfffe, 0xffff}

// anyGame is a game of all kinds that may be, PC at an order's place.
func anyGame(d *uint64) api.Game {
	g := api.Game{I: uint16(draw(d, 65536)), PC: uint16(0x200 + draw(d, 0xc9f)), Delay: byte(draw(d, 256)), Sound: byte(draw(d, 256)), Page: anyBytes(d, 256), Memory: anyBytes(d, 3232)}
	copy(g.V[:], anyBytes(d, 16))
	if draw(d, 2) == 0 {
		g.I = edges[draw(d, len(edges))]
	}
	if draw(d, 3) == 0 {
		g.Page = make([]byte, 256)
	}
	for range draw(d, 13) {
		g.Stack = append(g.Stack, uint16(draw(d, 65536)))
	}
	return g
}

// anyFont is a font of all kinds that may be.
func anyFont(d *uint64) api.Font {
	f := digits()
	if draw(d, 2) == 0 {
		n := draw(d, 100)
		f.From, f.Bytes = []uint16{0, 0x1f8, 0xe90, 0xe98, 0xea0, 0x8000, uint16(65535 - n), uint16(65536 - max(n, 1))}[draw(d, 8)], anyBytes(d, n)
		for k := range f.At {
			f.At[k] = uint16(draw(d, 65536))
		}
	}
	return f
}

// anyFeed is a feed of all kinds that may be.
func anyFeed(d *uint64) api.Feed {
	return api.Feed{Random: byte(draw(d, 256)), Keys: uint16(draw(d, 65536)), Key: draw(d, 20) - 4}
}

// laid is a game with a word at its PC.
func laid(g api.Game, w int) api.Game {
	g = twinCopy(g)
	g.Memory[g.PC-0x200], g.Memory[g.PC-0x1ff] = byte(w>>8), byte(w)
	return g
}

// P18.4: every word, each on a game of its own, against the twin; each kind has been done, and each outcome has come.
func TestEveryWord(t *testing.T) {
	d := uint64(5)
	type end struct {
		kind string
		out  api.Outcome
	}
	count := map[end]int{}
	var g api.Game
	for w := range 65536 {
		if w%16 == 0 {
			g = anyGame(&d)
		}
		g.I = edges[draw(&d, len(edges))]
		h := laid(g, w)
		_, out := wantTwin(t, h, anyFont(&d), anyFeed(&d))
		count[end{kinds[w], out}]++
	}
	for _, kind := range kinds {
		if kind == "" || kind == "0nnn" {
			continue
		}
		// Of a word without a digit that varies there is but one game here.
		if kind != "00ee" && kind != "00e0" && count[end{kind, api.Done}] == 0 {
			t.Fatalf("%s was never done", kind)
		}
	}
	for _, x := range []end{{"2nnn", api.Deep}, {"fx0a", api.Waits}, {"dxyn", api.Outside}, {"fx33", api.Outside}, {"fx55", api.Outside}, {"fx65", api.Outside}, {"", api.Unknown}, {"0nnn", api.Machine}} {
		if count[x] == 0 {
			t.Errorf("%+v never came", x)
		}
	}
}

// word is a word of all the kinds that are done, the kinds being as many.
func word(d *uint64) int {
	first := []int{0x00e0, 0x00ee, 0x1000, 0x2000, 0x3000, 0x4000, 0x5000, 0x6000, 0x7000, 0x8000, 0x8001, 0x8002, 0x8004, 0x8005, 0x9000, 0xa000, 0xb000, 0xc000, 0xd000, 0xe09e, 0xe0a1, 0xf007, 0xf00a, 0xf015, 0xf018, 0xf01e, 0xf029, 0xf033, 0xf055, 0xf065}
	varies := []int{0, 0, 0xfff, 0xfff, 0xfff, 0xfff, 0xff0, 0xfff, 0xfff, 0xff0, 0xff0, 0xff0, 0xff0, 0xff0, 0xff0, 0xfff, 0xfff, 0xfff, 0xfff, 0xf00, 0xf00, 0xf00, 0xf00, 0xf00, 0xf00, 0xf00, 0xf00, 0xf00, 0xf00, 0xf00}
	k := draw(d, len(first))
	return first[k] | draw(d, 4096)&varies[k]
}

// P18.4, P18.6: programs of all sorts, step by step, with ticks between, from place to place: what comes may be, and is the twin's.
func TestAnyPlay(t *testing.T) {
	d := uint64(6)
	done := map[string]int{}
	for range 120 {
		g := anyGame(&d)
		for at := 0; at < 3232; at += 2 {
			w := word(&d)
			if kinds[w] == "1nnn" || kinds[w] == "2nnn" || kinds[w] == "annn" || kinds[w] == "bnnn" {
				// So that most lead to where there are orders.
				w = w&0xf000 + 0x200 + draw(&d, 0xc80)&^1
			}
			g.Memory[at], g.Memory[at+1] = byte(w>>8), byte(w)
		}
		f := anyFont(&d)
		for range 150 {
			w := twinWord(g)
			h, out := wantTwin(t, g, f, anyFeed(&d))
			if e := Check(h); e != api.OK {
				t.Fatalf("Check of %s: %d", told(h), e)
			}
			if out == api.Done {
				done[kinds[w]]++
			} else {
				// Out of what does not go on, to a place where it may.
				h.PC, h.I = uint16(0x200+2*draw(&d, 1616)), edges[draw(&d, len(edges))]
				h.Stack = h.Stack[:len(h.Stack)/2]
			}
			if draw(&d, 5) == 0 {
				h = Tick(h)
				if e := Check(h); e != api.OK {
					t.Fatalf("Check of a tick: %d", e)
				}
			}
			g = h
		}
	}
	if len(done) != 30 {
		t.Errorf("how many of each: %v", done)
	}
}

// anyWorld are fonts and feeds that differ in all.
func anyWorld() ([]api.Font, []api.Feed) {
	var fonts []api.Font
	for k := range 3 {
		f := api.Font{From: []uint16{0, 0xe98, 0x8000}[k], Bytes: bytes.Repeat([]byte{byte(0x3c + k)}, []int{65536, 100, 80}[k])}
		for n := range f.At {
			f.At[n] = uint16(0x1111*n + k)
		}
		fonts = append(fonts, f)
	}
	return fonts, []api.Feed{{Key: -1}, {Random: 0xff, Keys: 0xffff, Key: 7}, {Random: 0x5a, Keys: 0x0f0f, Key: 15}, {Keys: 0xf0f0, Key: math.MinInt}}
}

// P18.7: what an order hangs on: Step with all else changed is the same.
func TestWhatItHangsOn(t *testing.T) {
	d := uint64(7)
	fonts, feeds := anyWorld()
	apart := map[string]int{}
	for range 6000 {
		g := anyGame(&d)
		g = laid(g, word(&d))
		kind := kinds[twinWord(g)]
		font := kind == "fx29" || kind == "dxyn" || kind == "fx65"
		f, in := fonts[draw(&d, 3)], feeds[draw(&d, 4)]
		first, out, _ := Step(g, f, in)
		for _, other := range feeds {
			if kind == "cxnn" {
				other.Random = in.Random
			}
			if kind == "ex9e" || kind == "exa1" {
				other.Keys = other.Keys&^(1<<(g.V[twinWord(g)/256%16]%16)) | in.Keys&(1<<(g.V[twinWord(g)/256%16]%16))
			}
			if kind == "fx0a" {
				other.Key = in.Key
			}
			for _, otherFont := range fonts {
				if font {
					otherFont = f
				}
				if h, o, e := Step(g, otherFont, other); !same(h, first) || o != out || e != api.OK {
					t.Fatalf("%s hangs on another thing: %s, %d, %d; want %s, %d", kind, told(h), o, e, told(first), out)
				}
			}
		}
		for _, other := range feeds {
			if h, _, _ := Step(g, f, other); !same(h, first) {
				apart[kind]++
			}
		}
		for _, other := range fonts {
			if h, _, _ := Step(g, other, in); !same(h, first) {
				apart[kind]++
			}
		}
	}
	for _, kind := range []string{"cxnn", "ex9e", "exa1", "fx0a", "fx29", "dxyn", "fx65"} {
		if apart[kind] == 0 {
			t.Errorf("%s hangs on nothing", kind)
		}
		delete(apart, kind)
	}
	if len(apart) != 0 {
		t.Errorf("what hangs on feeds and fonts: %v", apart)
	}
}

// P18.7: drawn twice with the same VX, VY, I and N, the page is as it was, though VF is told.
func TestDrawnTwice(t *testing.T) {
	d := uint64(8)
	for x := range 15 {
		for y := range 15 {
			for n := range 16 {
				g := anyGame(&d)
				g.PC, g.I = 0x200, uint16(0x300+draw(&d, 0xb00))
				w := 0xd000 | x<<8 | y<<4 | n
				copy(g.Memory, []byte{byte(w >> 8), byte(w), byte(w >> 8), byte(w)})
				once, _, _ := Step(g, digits(), none)
				twice, out, e := Step(once, digits(), none)
				if !bytes.Equal(twice.Page, g.Page) || out != api.Done || e != api.OK {
					t.Fatalf("%04x twice on %s: %s", w, told(g), told(twice))
				}
				came := byte(0)
				for k := range g.Page {
					if once.Page[k]&^g.Page[k] != 0 {
						came = 1
					}
				}
				if twice.V[15] != came {
					t.Fatalf("%04x on %s: VF %d; want %d", w, told(once), twice.V[15], came)
				}
			}
		}
	}
}

// P18.8: behind each call that is Done a return leads to the order behind it, the stack as it was: from all places, with all depths.
func TestThereAndBack(t *testing.T) {
	d := uint64(9)
	for pc := 0x200; pc <= 0xe9e; pc++ {
		to := 0x200 + draw(&d, 0xc9f)
		if to-1 <= pc && pc <= to+1 {
			continue // the call would be written over
		}
		g := anyGame(&d)
		g.PC = uint16(pc)
		g.Stack = g.Stack[:min(len(g.Stack), 11)]
		copy(g.Memory[to-0x200:], bin("00ee"))
		g = laid(g, 0x2000|to)
		there := wantDone(t, g, digits(), none, func(g *api.Game) {
			g.Stack, g.PC = append(g.Stack, uint16(pc+2)), uint16(to)
		})
		back, out, e := Step(there, digits(), none)
		want := twinCopy(g)
		want.PC += 2
		if !same(back, want) || out != api.Done || e != api.OK {
			t.Fatalf("back from %04x: %s, %d, %d; want %s", to, told(back), out, e, told(want))
		}
	}
}
