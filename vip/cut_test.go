package vip

import (
	"fmt"
	"slices"
	"testing"

	"vesper/api"
	"vesper/script"
)

// wantCut: P22.5 of a script that is cut in two. What both parts tell is what all tells, but for frames that lie on the cut, and for a beep there, of which each part has a piece.
func wantCut(t *testing.T, base *VIP, l []api.Span, n int, all api.Film, behind api.Board) {
	t.Helper()
	first, second, e := script.Cut(l, n)
	if e != api.OK {
		t.Fatalf("Cut at %d = %d", n, e)
	}
	v := base.Clone()
	a, e := v.Play(first)
	b, f := v.Play(second)
	if e != api.OK || f != api.OK || len(a.Records) != n {
		t.Fatalf("cut at %d: %d records, %d, %d", n, len(a.Records), e, f)
	}
	both := api.Film{Records: slices.Concat(a.Records, b.Records), Frames: a.Frames, Beeps: a.Beeps}
	for _, one := range b.Frames {
		one.From += n
		both.Frames = append(both.Frames, one)
	}
	for _, one := range b.Beeps {
		both.Beeps = append(both.Beeps, api.Beep{From: one.From + n, To: one.To + n})
	}
	want := api.Film{Records: all.Records}
	for _, one := range all.Frames {
		if n <= one.From || n >= one.From+whole {
			want.Frames = append(want.Frames, one)
		}
	}
	for _, one := range all.Beeps {
		if one.From < n && n < one.To {
			want.Beeps = append(want.Beeps, api.Beep{From: one.From, To: n})
			one.From = n
		}
		want.Beeps = append(want.Beeps, one)
	}
	what := fmt.Sprintf("cut at %d", n)
	wantFilm(t, what, both, want)
	wantStand(t, what, v, behind)
}

// P22.5: any machine, any script, cut at each of its cycles.
func TestCutAnywhere(t *testing.T) {
	d := uint64(51)
	for range 12 {
		base := standing(t, lively(&d))
		l := anyScript(&d, 40, 12)
		v := base.Clone()
		all := mustPlay(t, v, l...)
		for n := range len(all.Records) + 1 {
			wantCut(t, base, l, n, all, v.State())
		}
	}
}

// P22.5: frames on end, cut where one begins and ends, beside that, within lines, at the ends: those that lie on the cut are told by neither part, all others are.
func TestCutFrames(t *testing.T) {
	for _, at := range []int{0, 5, place(79, 3), place(150, 9), place(261, 13)} {
		base := lit(t, at)
		top := (whole - at) % whole
		l := []api.Span{{Cycles: top + 50}, {Cycles: whole, Keys: 3}, {Cycles: whole, Bus: 9, Flag: true}, {Cycles: whole, Tape: true}, {Cycles: 900}}
		v := base.Clone()
		all := mustPlay(t, v, l...)
		if len(all.Frames) != 3 {
			t.Fatalf("from %d on: %s", at, briefFilm(all))
		}
		places := []int{0, 1, 49, 50, top + 49, top + 50, top + 51, len(all.Records) - 1, len(all.Records)}
		for k := range 4 {
			b := top + k*whole
			places = append(places, b-1, b, b+1, b+place(80, 0), b+place(80, 2), b+place(100, 7))
		}
		for _, n := range places {
			if n >= 0 && n <= len(all.Records) {
				wantCut(t, base, l, n, all, v.State())
			}
		}
	}
}

// P22.5: a machine that shows a page and beeps, cut in many pieces at once, each of which goes on where the last one has ended.
func TestManyPieces(t *testing.T) {
	d := uint64(52)
	base := gameVIP(t, 0x60, 0x05, 0xf0, 0x18, 0xc1, 0x3f, 0xf0, 0x29, 0xd1, 0x15, 0xf2, 0x07, 0x12, 0x00)
	l := []api.Span{{Cycles: 21000}, {Cycles: 30000, Keys: 0x10}, {Cycles: 8000, Keys: 0xff}}
	v := base.Clone()
	all, e := v.Play(l)
	if e != api.OK || len(all.Beeps) == 0 || len(all.Frames) != 59000/whole {
		t.Fatalf("%s, %d", briefFilm(all), e)
	}
	other := base.Clone()
	rest := l
	at, frames := 0, 0
	for at < 59000 {
		n := min(1+draw(&d, 4*whole), 59000-at)
		first, second, _ := script.Cut(rest, n)
		f, e := other.Play(first)
		if e != api.OK || !slices.Equal(f.Records, all.Records[at:at+n]) {
			t.Fatalf("%d cycles from %d on: other records, %d", n, at, e)
		}
		for _, one := range f.Frames {
			one.From += at
			if k := one.From / whole; one.From%whole != 0 || !sameFrame(one, all.Frames[k]) {
				t.Fatalf("%d cycles from %d on: another frame from %d on", n, at, one.From)
			}
			frames++
		}
		at, rest = at+n, second
	}
	wantSame(t, "in pieces", other, v)
	if frames == 0 {
		t.Error("no piece has had a frame")
	}
}

// P22.5: cycle by cycle: no frame is told, and the records are the same.
func TestCycleByCycle(t *testing.T) {
	d := uint64(53)
	base := lit(t, whole-200)
	l := anyScript(&d, 100, 60)
	v := base.Clone()
	all := mustPlay(t, v, l...)
	other := base.Clone()
	for k, s := range script.All(l) {
		f, e := other.Play([]api.Span{s})
		if e != api.OK || len(f.Records) != 1 || f.Records[0] != all.Records[k] || len(f.Frames) != 0 {
			t.Fatalf("cycle %d: %s, %d", k, briefFilm(f), e)
		}
		if high := len(f.Beeps) == 1 && f.Beeps[0] == (api.Beep{From: 0, To: 1}); high != f.Records[0].Q || len(f.Beeps) > 1 {
			t.Fatalf("cycle %d: beeps %v", k, f.Beeps)
		}
	}
	wantSame(t, "cycle by cycle", other, v)
}
