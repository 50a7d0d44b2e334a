package vip

import (
	"bytes"
	"encoding/binary"
	"fmt"
	"hash/fnv"
	"slices"
	"testing"

	"vesper/api"
	"vesper/snap"
)

// onAlike plays a script on two machines, side by side: what they tell is the same, record by record, frame by frame, and so is how they stand then.
func onAlike(t *testing.T, what string, v, w *VIP, l ...api.Span) api.Film {
	t.Helper()
	one, e := v.Play(l)
	two, f := w.Play(l)
	if e != f {
		t.Fatalf("%s: Play = %d, and of the other one %d", what, e, f)
	}
	wantFilm(t, what, one, two)
	wantSame(t, what, v, w)
	return one
}

// wantKept saves a machine, and answers the one that is loaded: it stands as the first one, and is kept as the same bytes.
func wantKept(t *testing.T, v *VIP) *VIP {
	t.Helper()
	ahead := v.State()
	b := mustSave(t, v)
	if want, e := snap.Save(ahead); e != api.OK || !bytes.Equal(b, want) {
		t.Fatalf("Save of %s: other bytes than snap.Save", brief(ahead))
	}
	wantStand(t, "behind Save", v, ahead)
	w := mustLoad(t, b)
	wantStand(t, "loaded", w, ahead)
	if again := mustSave(t, w); !bytes.Equal(again, b) {
		t.Fatalf("Save of Load of Save of %s: other bytes", brief(ahead))
	}
	return w
}

// P22.4, P22.6: any machine with any script, saved between any two cycles, in each phase ahead of each mode.
func TestKeptAnywhere(t *testing.T) {
	d := uint64(61)
	var seen [9][4]int
	for k := range 150 {
		v := standing(t, lively(&d))
		for n := range 20 {
			l := anyScript(&d, 8, 6)
			l[0].Clear, l[0].Wait = draw(&d, 5) == 0, draw(&d, 5) == 0
			what := fmt.Sprintf("machine %d, the %dth time", k, n)
			phase := v.State().CPU.Phase
			f := onAlike(t, what, v.Clone(), wantKept(t, v), l...)
			seen[phase][f.Records[0].Mode]++
			onAlike(t, what, v, v.Clone(), anySpan(&d, 3))
		}
	}
	for phase := api.Fetch; phase <= api.Interrupt; phase++ {
		for mode, n := range seen[phase] {
			if n == 0 {
				t.Errorf("phase %d ahead of mode %d was not seen: %v", phase, mode, seen)
			}
		}
	}
}

// P22.6: at each cycle of lines in which an interrupt comes, bytes go by DMA, and instructions are under way; then for frames on end.
func TestKeptInLines(t *testing.T) {
	v := gameVIP(t, 0x60, 0x05, 0xf0, 0x18, 0xf0, 0x15, 0xc1, 0x3f, 0xf0, 0x29, 0xd1, 0x15, 0xf2, 0x07, 0x12, 0x00)
	if _, e := v.Play([]api.Span{{Cycles: 14*whole + place(77, 12)}}); e != api.OK {
		t.Fatal(e)
	}
	var codes [4]int
	for k := range 14 * 5 {
		f := onAlike(t, fmt.Sprintf("cycle %d", k), v.Clone(), wantKept(t, v), api.Span{Cycles: 2*whole + 400, Keys: uint16(k)}, api.Span{Cycles: 100, Bus: byte(k)})
		if len(f.Frames) != 1 || f.Frames[0].Short {
			t.Fatalf("cycle %d: %s", k, briefFilm(f))
		}
		f = onAlike(t, "a cycle on", v, v.Clone(), api.Span{Cycles: 1})
		codes[f.Records[0].Code]++
	}
	if codes[api.S2] < 16 || codes[api.S3] != 1 || codes[api.S0] == 0 || codes[api.S1] == 0 {
		t.Errorf("codes: %v", codes)
	}
}

// P22.6: one machine that is saved and loaded over and over, and one that never is.
func TestKeptOverAndOver(t *testing.T) {
	d := uint64(62)
	for k := range 10 {
		v := standing(t, lively(&d))
		w := v.Clone()
		for n := range 120 {
			w = wantKept(t, w)
			onAlike(t, fmt.Sprintf("machine %d, the %dth time", k, n), v, w, anyScript(&d, 1+draw(&d, 3), 1+draw(&d, 60))...)
		}
	}
}

// P22.6: scripts that are refused are refused by both, and both go on as if there had been none.
func TestKeptRefusesAlike(t *testing.T) {
	v := lit(t, place(100, 4))
	w := wantKept(t, v)
	for what, l := range wrongScripts() {
		onAlike(t, what, v, w, l...)
	}
	onAlike(t, "behind them", v, w, api.Span{Cycles: 2 * whole})
}

// mended is bytes with the right sum in the place of their last eight.
func mended(b []byte) []byte {
	h := fnv.New64a()
	h.Write(b[:len(b)-8])
	return binary.LittleEndian.AppendUint64(slices.Clone(b[:len(b)-8]), h.Sum64())
}

// with is other bytes, with one of them another one.
func with(b []byte, at int, one byte) []byte {
	b = slices.Clone(b)
	b[at] = one
	return b
}

// P22.4: bytes that are no machine are refused, by the error that snap.Load has for them: of the form, of the sum, of the state.
func TestLoadRefuses(t *testing.T) {
	b := mustSave(t, lit(t, place(100, 4)))
	var seen [3]int
	want := func(what string, other []byte, want api.Errno) {
		t.Helper()
		if _, e := snap.Load(other); e != want {
			t.Fatalf("%s: snap.Load = %d; want %d", what, e, want)
		}
		if v, e := Load(other); v != nil || e != want {
			t.Errorf("%s: Load = %v, %d; want %d", what, v, e, want)
		}
		seen[want-api.ErrSnapForm]++
	}
	want("none", nil, api.ErrSnapForm)
	want("no byte", []byte{}, api.ErrSnapForm)
	for n := range b {
		if n%97 == 0 || n < 70 || n > len(b)-12 {
			want(fmt.Sprintf("the first %d bytes", n), b[:n], api.ErrSnapForm)
		}
	}
	want("a byte more", append(slices.Clone(b), 0), api.ErrSnapForm)
	for at := range 4 {
		want("other letters", mended(with(b, at, 'W')), api.ErrSnapForm)
	}
	for _, at := range []int{37, 41, 42, 49, 52} {
		want(fmt.Sprintf("neither yes nor no at %d", at), mended(with(b, at, 2)), api.ErrSnapForm)
	}
	for at := 4; at < len(b); at += 13 {
		if at != 61 && at != 62 && b[at]^4 > 4 {
			want(fmt.Sprintf("another byte at %d", at), with(b, at, b[at]^4), api.ErrSnapSum)
		}
	}
	for at := len(b) - 8; at < len(b); at++ {
		want("another sum", with(b, at, b[at]+1), api.ErrSnapSum)
	}
	want("P 16", mended(with(b, 38, 16)), api.ErrSnapState)
	want("X 16", mended(with(b, 39, 16)), api.ErrSnapState)
	want("Phase 0", mended(with(b, 45, 0)), api.ErrSnapState)
	want("Phase 9", mended(with(b, 45, 9)), api.ErrSnapState)
	want("line 262", mended(with(with(b, 46, 6), 47, 1)), api.ErrSnapState)
	want("cycle 14", mended(with(b, 48, 14)), api.ErrSnapState)
	want("nine bytes got", mended(with(b, 50, 9)), api.ErrSnapState)
	want("the latch of the pad at 16", mended(with(b, 51, 16)), api.ErrSnapState)
	if slices.Contains(seen[:], 0) {
		t.Errorf("errors: %v", seen)
	}
}

// P22.4: Load takes what snap.Save makes of any machine that may be.
func TestLoadTakes(t *testing.T) {
	d := uint64(63)
	for range 300 {
		m := lively(&d)
		wantStand(t, "loaded", standing(t, m), m)
	}
	for size := 2048; size <= 32768; size += 2048 {
		v := mustNew(t, api.Config{RAM: size, ROM: mixed(&d, 512), Image: mixed(&d, size)})
		w := wantKept(t, v)
		onAlike(t, fmt.Sprintf("%d bytes", size), v, w, anyScript(&d, 10, 50)...)
	}
}

// P22.4: State ahead of a script and behind it is what the records in between have made of it.
func TestState(t *testing.T) {
	d := uint64(64)
	for range 60 {
		m := lively(&d)
		v := standing(t, m)
		wantStand(t, "ahead", v, m)
		l := anyScript(&d, 10, 40)
		b := mustFrom(t, m)
		records, _ := b.Run(l)
		f, e := v.Play(l)
		if e != api.OK || !slices.Equal(f.Records, records) {
			t.Fatalf("other records, %d", e)
		}
		wantStand(t, "behind", v, b.State())
		if got := v.State(); got.Cycles != m.Cycles+uint64(len(records)) {
			t.Fatalf("%d cycles behind %d, and %d records", got.Cycles, m.Cycles, len(records))
		}
	}
}

// P22.4: a clone stands alike, and what is played on one of the two is not seen at the other.
func TestClone(t *testing.T) {
	d := uint64(65)
	for k := range 60 {
		v := standing(t, lively(&d))
		ahead := v.State()
		w := v.Clone()
		wantStand(t, "a clone", w, ahead)
		a, b := anyScript(&d, 12, 40), anyScript(&d, 12, 40)
		fresh := standing(t, ahead)
		want, _ := fresh.Clone().Play(b)
		if _, e := v.Play(a); e != api.OK {
			t.Fatal(e)
		}
		wantStand(t, "the clone of one that played on", w, ahead)
		behind := v.State()
		got, e := w.Play(b)
		if e != api.OK {
			t.Fatal(e)
		}
		wantFilm(t, fmt.Sprintf("clone %d", k), got, want)
		wantStand(t, "one whose clone played on", v, behind)
		onAlike(t, "the clone from where the first one stood", v.Clone(), standing(t, behind), b...)
		onAlike(t, "one that has never been cloned", fresh, standing(t, ahead), a...)
		wantStand(t, "two ways to the same place", fresh, behind)
	}
}
