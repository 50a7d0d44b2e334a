package game

import (
	"bytes"
	"encoding/binary"
	"encoding/hex"
	"fmt"
	"math/bits"
	"slices"
	"strings"
	"testing"

	"vesper/api"
	"vesper/sprite"
)

// draw is a number below n, of a fixed row of numbers.
func draw(d *uint64, n int) int {
	*d = *d*6364136223846793005 + 1442695040888963407
	return int(*d >> 33 % uint64(n))
}

// anyBytes are so many bytes of all kinds.
func anyBytes(d *uint64, n int) []byte {
	b := make([]byte, n)
	for k := range b {
		b[k] = byte(draw(d, 256))
	}
	return b
}

// bin is the bytes of digits, blanks between them left out.
func bin(digits string) []byte {
	b, err := hex.DecodeString(strings.ReplaceAll(digits, " ", ""))
	if err != nil {
		panic(err)
	}
	return b
}

// none is the feed of no key.
var none = api.Feed{Key: -1}

// digits is the chapter's font, with the digits' pictures in it.
func digits() api.Font {
	f := api.Font{From: 0x8000}
	for k := range f.At {
		f.At[k] = uint16(0x8000 + 5*k)
		rows := sprite.Digit(byte(k))
		f.Bytes = append(f.Bytes, rows[:]...)
	}
	return f
}

// begun is the game of a program in digits, with something done to it.
func begun(t *testing.T, program string, do func(g *api.Game)) api.Game {
	t.Helper()
	g, e := New(bin(program))
	if e != api.OK {
		t.Fatalf("New of %s: %d", program, e)
	}
	if do != nil {
		do(&g)
	}
	return g
}

// twinCopy is a game that shares nothing with another one.
func twinCopy(g api.Game) api.Game {
	g.Stack, g.Page, g.Memory = slices.Clone(g.Stack), slices.Clone(g.Page), slices.Clone(g.Memory)
	return g
}

// same tells whether two games are alike, nil and empty lists being the same.
func same(g, h api.Game) bool {
	return g.V == h.V && g.I == h.I && g.PC == h.PC && g.Delay == h.Delay && g.Sound == h.Sound &&
		slices.Equal(g.Stack, h.Stack) && bytes.Equal(g.Page, h.Page) && bytes.Equal(g.Memory, h.Memory)
}

// zero tells whether a game is all noughts and has no lists.
func zero(g api.Game) bool { return same(g, api.Game{}) }

// told is a game as a text: what is not 0 of its bytes by their addresses.
func told(g api.Game) string {
	var s strings.Builder
	fmt.Fprintf(&s, "V %x I %04x PC %04x stack %04x delay %d sound %d, %d bytes of page:", g.V, g.I, g.PC, g.Stack, g.Delay, g.Sound, len(g.Page))
	for k, b := range g.Page {
		if b != 0 {
			fmt.Fprintf(&s, " %02x:%02x", k, b)
		}
	}
	fmt.Fprintf(&s, ", %d of memory:", len(g.Memory))
	for k, b := range g.Memory {
		if b != 0 {
			fmt.Fprintf(&s, " %04x:%02x", 512+k, b)
		}
	}
	return s.String()
}

// twinByte is what lies at an address: the font is laid first, the memory over it; -1: nothing.
func twinByte(g api.Game, f api.Font, a int) int {
	b := -1
	for k := range f.Bytes {
		if int(f.From)+k == a {
			b = int(f.Bytes[k])
		}
	}
	if 0x200 <= a && a <= 0xe9f {
		b = int(g.Memory[a-0x200])
	}
	return b
}

// twinBytes are so many bytes from I on; nil, if one is outside.
func twinBytes(g api.Game, f api.Font, n int) []byte {
	all := []byte{}
	for a := int(g.I); a < int(g.I)+n; a++ {
		b := twinByte(g, f, a)
		if b < 0 {
			return nil
		}
		all = append(all, byte(b))
	}
	return all
}

// twinDraw turns whole rows of 64 bits.
func twinDraw(page []byte, x, y byte, rows []byte) int {
	gone := 0
	for k, b := range rows {
		at := 8 * (int(y%32) + k)
		if at >= 256 {
			break
		}
		row, laid := binary.BigEndian.Uint64(page[at:]), bits.RotateLeft64(uint64(b), 56)>>(x%64)
		if row&laid != 0 {
			gone = 1
		}
		binary.BigEndian.PutUint64(page[at:], row^laid)
	}
	return gone
}

// twinKind is the first of the chapter's words that has a word's digits; "" none.
func twinKind(w int) string {
	digits := fmt.Sprintf("%04x", w)
	for _, kind := range []string{
		"00e0", "00ee", "0nnn", "1nnn", "2nnn", "3xnn", "4xnn", "5xy0", "6xnn", "7xnn", "8xy0", "8xy1", "8xy2", "8xy4", "8xy5", "9xy0",
		"annn", "bnnn", "cxnn", "dxyn", "ex9e", "exa1", "fx07", "fx0a", "fx15", "fx18", "fx1e", "fx29", "fx33", "fx55", "fx65",
	} {
		fits := true
		for k, sign := range digits {
			fits = fits && (strings.ContainsRune("xyn", rune(kind[k])) || rune(kind[k]) == sign)
		}
		if fits {
			return kind
		}
	}
	return ""
}

// kinds are the kinds of all words.
var kinds = func() []string {
	all := make([]string, 65536)
	for w := range all {
		all[w] = twinKind(w)
	}
	return all
}()

// twinWord is the word at PC; -1: none.
func twinWord(g api.Game) int {
	if g.PC < 0x200 || g.PC > 0xe9e {
		return -1
	}
	return int(binary.BigEndian.Uint16(g.Memory[g.PC-0x200:]))
}

// twinFault is the error that Step has of what it is given.
func twinFault(g api.Game, f api.Font, in api.Feed) api.Errno {
	switch {
	case len(g.Page) != 256, len(g.Memory) != 3232, len(g.Stack) > 12:
		return api.ErrGameState
	case int(f.From)+len(f.Bytes) > 65536, in.Key > 15:
		return api.ErrArg
	}
	return api.OK
}

// twinStep goes by the words' digits, in numbers without bound that are cut at the end.
func twinStep(g api.Game, f api.Font, in api.Feed) (api.Game, api.Outcome, api.Errno) {
	if e := twinFault(g, f, in); e != api.OK {
		return api.Game{}, 0, e
	}
	w := twinWord(g)
	switch {
	case w < 0:
		return g, api.Outside, api.OK
	case kinds[w] == "":
		return g, api.Unknown, api.OK
	case kinds[w] == "0nnn":
		return g, api.Machine, api.OK
	}
	h := twinCopy(g)
	h.PC = uint16(int(g.PC) + 2)
	out := twinFlow(&h, w, in)
	if out == 0 {
		out = twinSum(&h, w, in)
	}
	if out == 0 {
		out = twinRest(&h, f, w)
	}
	if out != api.Done {
		return g, out, api.OK
	}
	return h, out, api.OK
}

// twinFlow does what has to do with PC; 0: it is none of these.
func twinFlow(h *api.Game, w int, in api.Feed) api.Outcome {
	vx, vy := int(h.V[w/256%16]), int(h.V[w/16%16])
	down := false
	for k := range 16 {
		down = down || k == vx%16 && in.Keys&(1<<k) != 0
	}
	skips := map[string]bool{"3xnn": vx == w%256, "4xnn": vx != w%256, "5xy0": vx == vy, "9xy0": vx != vy, "ex9e": down, "exa1": !down}
	if yes, is := skips[kinds[w]]; is {
		if yes {
			h.PC = uint16(int(h.PC) + 2)
		}
		return api.Done
	}
	switch kinds[w] {
	case "00ee":
		if len(h.Stack) == 0 {
			return api.Empty
		}
		h.PC, h.Stack = h.Stack[len(h.Stack)-1], h.Stack[:len(h.Stack)-1]
	case "1nnn":
		h.PC = uint16(w % 4096)
	case "bnnn":
		h.PC = uint16(w%4096 + int(h.V[0]))
	case "2nnn":
		if len(h.Stack) == 12 {
			return api.Deep
		}
		h.Stack, h.PC = append(h.Stack, h.PC), uint16(w%4096)
	default:
		return 0
	}
	return api.Done
}

// twinSum does what makes a new VX, and VF; 0: it is none of these.
func twinSum(h *api.Game, w int, in api.Feed) api.Outcome {
	x, vx, vy := w/256%16, int(h.V[w/256%16]), int(h.V[w/16%16])
	v, vf := 0, -1
	switch kinds[w] {
	case "6xnn":
		v = w % 256
	case "7xnn":
		v = vx + w%256
	case "8xy0":
		v = vy
	case "8xy1":
		v, vf = vx|vy, 0
	case "8xy2":
		v, vf = vx&vy, 0
	case "8xy4":
		v, vf = vx+vy, (vx+vy)/256
	case "8xy5":
		v, vf = 256+vx-vy, (256+vx-vy)/256
	case "cxnn":
		v = int(in.Random) & w % 256
	case "fx07":
		v = int(h.Delay)
	case "fx0a":
		if in.Key < 0 {
			return api.Waits
		}
		v = in.Key
	default:
		return 0
	}
	h.V[x] = byte(v % 256)
	if vf >= 0 {
		h.V[15] = byte(vf)
	}
	return api.Done
}

// twinRest does what has to do with I, the page, the timers and the memory.
func twinRest(h *api.Game, f api.Font, w int) api.Outcome {
	x := w / 256 % 16
	vx := h.V[x]
	within := func(n int) bool { return h.I >= 0x200 && int(h.I)+n <= 0xea0 }
	switch kinds[w] {
	case "00e0":
		h.Page = make([]byte, 256)
	case "annn":
		h.I = uint16(w % 4096)
	case "fx1e":
		h.I = uint16(int(h.I) + int(vx))
	case "fx29":
		h.I = f.At[vx%16]
	case "fx15":
		h.Delay = vx
	case "fx18":
		h.Sound = vx
	case "dxyn":
		rows := twinBytes(*h, f, w%16)
		if rows == nil {
			return api.Outside
		}
		h.V[15] = byte(twinDraw(h.Page, vx, h.V[w/16%16], rows))
	case "fx33":
		if !within(3) {
			return api.Outside
		}
		for k, digit := range fmt.Sprintf("%03d", vx) {
			h.Memory[int(h.I)-0x200+k] = byte(digit - '0')
		}
	case "fx55":
		if !within(x + 1) {
			return api.Outside
		}
		for k := range x + 1 {
			h.Memory[int(h.I)-0x200+k] = h.V[k]
		}
		h.I = uint16(int(h.I) + x + 1)
	case "fx65":
		b := twinBytes(*h, f, x+1)
		if b == nil {
			return api.Outside
		}
		for k := range b {
			h.V[k] = b[k]
		}
		h.I = uint16(int(h.I) + x + 1)
	}
	return api.Done
}

// wantStep: Step answers just this game and this outcome.
func wantStep(t *testing.T, g api.Game, f api.Font, in api.Feed, want api.Game, out api.Outcome) {
	t.Helper()
	if h, o, e := Step(g, f, in); !same(h, want) || o != out || e != api.OK {
		t.Fatalf("Step of %s\nwith %+v:\n%s\n%d, %d; want\n%s\n%d", told(g), in, told(h), o, e, told(want), out)
	}
}

// wantTwin: Step answers what the twin does; what that is.
func wantTwin(t *testing.T, g api.Game, f api.Font, in api.Feed) (api.Game, api.Outcome) {
	t.Helper()
	want, out, e := twinStep(g, f, in)
	if e != api.OK {
		t.Fatalf("the twin: %d", e)
	}
	wantStep(t, g, f, in, want, out)
	return want, out
}

// wantNoStep: Step answers that error alone.
func wantNoStep(t *testing.T, g api.Game, f api.Font, in api.Feed, want api.Errno) {
	t.Helper()
	if h, o, e := Step(g, f, in); !zero(h) || o != 0 || e != want {
		t.Fatalf("Step: %s\n%d, %d; want the error %d", told(h), o, e, want)
	}
	if _, _, e := twinStep(g, f, in); e != want {
		t.Fatalf("the twin: %d; want the error %d", e, want)
	}
}

// wantStuck: Step has that outcome, and the game is as it was.
func wantStuck(t *testing.T, g api.Game, f api.Font, in api.Feed, out api.Outcome) {
	t.Helper()
	wantStep(t, g, f, in, g, out)
	wantTwin(t, g, f, in)
}

// wantDone: Step is Done, and the game is the one to which that was done, PC being two on ahead of it.
func wantDone(t *testing.T, g api.Game, f api.Font, in api.Feed, do func(g *api.Game)) api.Game {
	t.Helper()
	want := twinCopy(g)
	want.PC += 2
	do(&want)
	wantStep(t, g, f, in, want, api.Done)
	wantTwin(t, g, f, in)
	return want
}

// steps does so many orders, all of which must be Done.
func steps(t *testing.T, g api.Game, n int) api.Game {
	t.Helper()
	for range n {
		h, out := wantTwin(t, g, digits(), none)
		if out != api.Done {
			t.Fatalf("%d at %04x", out, g.PC)
		}
		g = h
	}
	return g
}

// The chapter's examples: sums, and VF told last.
func TestExamplesOfSums(t *testing.T) {
	g := begun(t, "6105 62ff 8214", nil)
	want := twinCopy(g)
	want.V[1], want.V[2], want.V[15], want.PC = 5, 4, 1, 0x206
	if h := steps(t, g, 3); !same(h, want) {
		t.Errorf("61 05, 62 ff, 82 14: %s", told(h))
	}
	if h := steps(t, begun(t, "6f07 8ff5", nil), 2); h.V != [16]byte{15: 1} || h.PC != 0x204 {
		t.Errorf("6f 07, 8f f5: %s", told(h))
	}
}

// The chapter's examples: calls and returns.
func TestExamplesOfCalls(t *testing.T) {
	g := begun(t, "2204 0000 00ee", nil)
	want := twinCopy(g)
	want.PC = 0x202
	g = steps(t, g, 2)
	if o, out := Next(g); !same(g, want) || o != (api.Order{Op: api.OpMachine}) || out != api.Machine {
		t.Errorf("22 04, 00 00, 00 ee: %s; %+v, %d", told(g), o, out)
	}
	wantStuck(t, begun(t, "00ee", nil), digits(), none, api.Empty)
	g = steps(t, begun(t, "2200", nil), 12)
	if len(g.Stack) != 12 {
		t.Errorf("twelve calls: %s", told(g))
	}
	wantStuck(t, g, digits(), none, api.Deep)
}

// The chapter's examples: three digits, keys, pictures, the last byte, nothing.
func TestExamplesOfBytes(t *testing.T) {
	f := digits()
	three := begun(t, "ff33", func(g *api.Game) { g.V[15], g.I = 254, 0x0e9e })
	wantStuck(t, three, f, none, api.Outside)
	three.I = 0x0e9d
	wantDone(t, three, f, none, func(g *api.Game) { copy(g.Memory[0x0e9d-0x200:], "\x02\x05\x04") })

	key := begun(t, "f20a", nil)
	wantStuck(t, key, f, api.Feed{Key: -1}, api.Waits)
	if h := wantDone(t, key, f, api.Feed{Key: 11}, func(g *api.Game) { g.V[2] = 11 }); h.PC != 0x202 {
		t.Errorf("behind a key: %s", told(h))
	}

	picture := begun(t, "d005", func(g *api.Game) { g.I = 0x8000 + 80 - 4 })
	wantStuck(t, picture, f, none, api.Outside)
	picture.I = 0x8000 + 75
	wantDone(t, picture, f, none, func(g *api.Game) {
		for k, b := range bin("f080f08080") {
			g.Page[8*k] = b
		}
	})

	last := steps(t, begun(t, "ae9f f065 f065", nil), 2)
	if last.I != 0x0ea0 {
		t.Errorf("ae 9f, f0 65: %s", told(last))
	}
	wantStuck(t, last, f, none, api.Outside)

	empty := begun(t, "", nil)
	wantStuck(t, empty, f, none, api.Machine)
	if o, out := Next(empty); o != (api.Order{Op: api.OpMachine}) || out != api.Machine {
		t.Errorf("New of nothing: %+v, %d", o, out)
	}
	empty.PC = 0x0e9f
	wantStuck(t, empty, f, none, api.Outside)
}
