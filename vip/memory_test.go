package vip

import (
	"bytes"
	"runtime"
	"slices"
	"sync"
	"testing"
	"time"

	"vesper/api"
)

// roomy is the same list with room behind its end, which holds that thing; and all of it, room and list.
func roomy[T any](l []T, behind T) (list, all []T) {
	all = append(slices.Clone(l), slices.Repeat([]T{behind}, 700)...)
	return all[:len(l)], all
}

// overwrite writes that thing over a list and over all the room behind its end.
func overwrite[T any](l []T, with T) {
	l = l[:cap(l)]
	for k := range l {
		l[k] = with
	}
}

// scribble writes over a film, over all its lists and the room behind their ends, and makes them grow.
func scribble(f api.Film) {
	for _, one := range f.Frames {
		for _, row := range one.Rows {
			overwrite(row, 0xee)
			_ = append(row, 0xee, 0xee)
		}
		overwrite(one.Rows, []byte{0xee})
		_ = append(one.Rows, []byte{0xee})
	}
	overwrite(f.Frames, api.Frame{From: -9})
	overwrite(f.Records, api.Record{Code: 9, Address: 0xeeee})
	overwrite(f.Beeps, api.Beep{From: -9, To: -9})
	_, _, _ = append(f.Frames, api.Frame{From: -9}), append(f.Records, api.Record{Code: 9}), append(f.Beeps, api.Beep{From: -9})
}

func scribbleBoard(m api.Board) {
	overwrite(m.RAM, 0xee)
	overwrite(m.ROM, 0xee)
	_, _ = append(m.RAM, 0xee), append(m.ROM, 0xee)
}

// R5: New changes nothing of the configuration, keeps nothing of it, and does not look behind its ends.
func TestNewKeepsNothing(t *testing.T) {
	d := uint64(71)
	for _, n := range []int{0, 1, 600, 2047, 2048} {
		c := api.Config{RAM: 2048}
		was := api.Config{RAM: 2048, ROM: mixed(&d, 512), Image: mixed(&d, n)}
		var firm, image []byte
		c.ROM, firm = roomy(was.ROM, 0x7b)
		c.Image, image = roomy(was.Image, 0x7b)
		firmWas, imageWas := bytes.Clone(firm), bytes.Clone(image)
		v := mustNew(t, c)
		if !bytes.Equal(firm, firmWas) || !bytes.Equal(image, imageWas) {
			t.Fatal("New has changed what it was handed")
		}
		want := mustNew(t, copyConfig(was))
		wantSame(t, "with room behind", v, want)
		overwrite(c.ROM, 0xee)
		overwrite(c.Image, 0xee)
		wantSame(t, "written over by their owner", v, want)
		for range 3 {
			l := anyScript(&d, 20, 60)
			onAlike(t, "written over by their owner", v, want, l...)
		}
		if !bytes.Equal(firm, bytes.Repeat([]byte{0xee}, len(firm))) || !bytes.Equal(image, bytes.Repeat([]byte{0xee}, len(image))) {
			t.Fatal("the machine has written into what New was handed")
		}
	}
	// What lies behind the end of a list that is too short does not make it longer.
	firm := make([]byte, 512)
	wantNoVIP(t, "a byte of ROM behind its end", api.Config{RAM: 2048, ROM: firm[:511]})
}

// R5: what New refuses is not changed.
func TestRefusedChangesNothing(t *testing.T) {
	d := uint64(72)
	for _, c := range []api.Config{{RAM: 2049, ROM: mixed(&d, 512), Image: mixed(&d, 9)}, {RAM: 2048, ROM: mixed(&d, 513), Image: mixed(&d, 9)}, {RAM: 2048, ROM: mixed(&d, 512), Image: mixed(&d, 2049)}} {
		was := copyConfig(c)
		wantNoVIP(t, "a fault", c)
		if !sameConfig(c, was) {
			t.Error("New has changed what it refused")
		}
	}
	b := mixed(&d, 3000)
	was := bytes.Clone(b)
	if _, e := Load(b); e != api.ErrSnapForm || !bytes.Equal(b, was) {
		t.Errorf("Load = %d, or has changed what it refused", e)
	}
	program := mixed(&d, 3233)
	was = bytes.Clone(program)
	if _, e := Game(program); e != api.ErrVIPProgram || !bytes.Equal(program, was) {
		t.Errorf("Game = %d, or has changed what it refused", e)
	}
	for what, l := range wrongScripts() {
		was := slices.Clone(l)
		if _, e := mustNew(t, shining()).Play(l); e == api.OK || !slices.Equal(l, was) {
			t.Errorf("%s: Play = %d, or has changed what it refused", what, e)
		}
	}
}

// P22.2, R5: configurations share nothing with the program, nor with one another, nor their lists with each other; one that is written over by its owner leaves all others as they are.
func TestGameSharesNothing(t *testing.T) {
	d := uint64(73)
	for _, n := range []int{0, 1, 200, 3231, 3232} {
		want := mixed(&d, n)
		program, all := roomy(want, 0x7b)
		allWas := bytes.Clone(all)
		one, two := wantGame(t, program), wantGame(t, program)
		was := copyConfig(one)
		if !bytes.Equal(all, allWas) {
			t.Fatal("Game has changed the program, or the room behind it")
		}
		overwrite(two.ROM, 0xee)
		overwrite(two.Image, 0xee)
		_, _ = append(two.ROM, 0xee), append(two.Image, 0xee)
		if !sameConfig(one, was) || !bytes.Equal(all, allWas) {
			t.Fatal("a configuration, or the program, has changed with another configuration")
		}
		overwrite(program, 0xee)
		if !sameConfig(one, was) {
			t.Fatal("a configuration has changed with the program")
		}
		overwrite(one.ROM, 0xee)
		_ = append(one.ROM, bytes.Repeat([]byte{0xee}, 5000)...)
		if !bytes.Equal(one.Image, was.Image) {
			t.Fatal("the image has changed with ROM")
		}
		three := wantGame(t, want)
		overwrite(three.Image, 0xee)
		_ = append(three.Image, bytes.Repeat([]byte{0xee}, 5000)...)
		if !bytes.Equal(three.ROM, was.ROM) {
			t.Fatal("ROM has changed with the image")
		}
		if four := wantGame(t, want); !sameConfig(four, was) {
			t.Fatal("Game asked anew: another configuration")
		}
	}
}

// R5: Play changes nothing of the script, keeps nothing of it, and does not look behind its end.
func TestPlayKeepsNothing(t *testing.T) {
	d := uint64(74)
	for range 30 {
		base := standing(t, lively(&d))
		want := anyScript(&d, 1+draw(&d, 20), 60)
		next := anyScript(&d, 10, 60)
		l, all := roomy(want, api.Span{Cycles: 7, Clear: true})
		allWas := slices.Clone(all)
		v, w := base.Clone(), base.Clone()
		got := mustPlay(t, v, l...)
		other, e := w.Play(l)
		if e != api.OK || !slices.Equal(all, allWas) {
			t.Fatalf("Play = %d, or has changed the script, or the room behind it", e)
		}
		wantFilm(t, "with room behind", other, got)
		overwrite(l, api.Span{Cycles: 3, DMAIn: true, Bus: 0xee})
		wantFilm(t, "the script written over", other, got)
		onAlike(t, "behind a script that was written over", w, v, next...)
	}
}

// R5: films share nothing with the machine, nor with one another: those that are written over leave others, and the machine, as they are.
func TestFilmsShareNothing(t *testing.T) {
	v := lit(t, place(150, 6))
	w := v.Clone()
	l := []api.Span{{Cycles: 3*whole + 99}, {Cycles: 3, Clear: true}, {Cycles: whole}}
	kept, _ := v.Play(l)
	want := copyFilm(kept)
	ahead := v.State()
	other, _ := w.Play(l)
	wantFilm(t, "two clones", other, kept)
	scribble(other)
	wantFilm(t, "another film written over", kept, want)
	wantStand(t, "a film written over", w, ahead)
	more, e := w.Play(l)
	if e != api.OK {
		t.Fatal(e)
	}
	moreWas := copyFilm(more)
	again, _ := v.Play(l)
	wantFilm(t, "played on behind a film that was written over", again, more)
	scribble(again)
	wantFilm(t, "kept while the next one was written over", kept, want)
	wantFilm(t, "kept while that of a clone was written over", more, moreWas)
}

// R5: no two lists of a film share memory, spare room included: each is written over by itself, and all others stay.
func TestListsOfAFilm(t *testing.T) {
	base := lit(t, place(150, 6))
	l := []api.Span{{Cycles: 2*whole + 1900}, {Cycles: 3, Clear: true}, {Cycles: 50}}
	play := func() api.Film { f, _ := base.Clone().Play(l); return f }
	want := play()
	if len(want.Frames) != 2 || len(want.Beeps) != 2 {
		t.Fatal(briefFilm(want))
	}
	f := play()
	overwrite(f.Records, api.Record{Code: 9})
	f.Records = want.Records
	wantFilm(t, "records written over", f, want)
	overwrite(f.Beeps, api.Beep{From: -1})
	f.Beeps = want.Beeps
	wantFilm(t, "beeps written over", f, want)
	for k := range f.Frames {
		for i := range f.Frames[k].Rows {
			overwrite(f.Frames[k].Rows[i], 0xee)
			f.Frames[k].Rows[i] = want.Frames[k].Rows[i]
			if i%16 == 0 || i == 127 {
				wantFilm(t, "a row written over", f, want)
			}
		}
		overwrite(f.Frames[k].Rows, []byte{0xee})
		f.Frames[k].Rows = want.Frames[k].Rows
		wantFilm(t, "a frame's rows written over", f, want)
	}
	overwrite(f.Frames, api.Frame{From: -1})
	f.Frames = want.Frames
	wantFilm(t, "frames written over", f, want)
}

// P22.4, R5: a State that is written over by its owner changes neither the machine nor another State; nor does the machine's going on change a State.
func TestStatesShareNothing(t *testing.T) {
	d := uint64(75)
	for range 20 {
		v := standing(t, lively(&d))
		one, two := v.State(), v.State()
		was := copyBoard(one)
		scribbleBoard(two)
		if !sameBoard(one, was) {
			t.Fatal("a State has changed with another one")
		}
		wantStand(t, "a State written over", v, was)
		w := v.Clone()
		three := v.State()
		overwrite(three.RAM, 0xee)
		_ = append(three.RAM, bytes.Repeat([]byte{0xee}, 600)...)
		if !bytes.Equal(three.ROM, was.ROM) {
			t.Fatal("ROM of a State has changed with RAM")
		}
		onAlike(t, "behind States that were written over", v, w, anyScript(&d, 30, 60)...)
		if !sameBoard(one, was) {
			t.Fatal("a State has changed with the machine")
		}
	}
}

// R5: bytes that were saved, or loaded from, are nobody's but their owner's.
func TestKeptBytesShareNothing(t *testing.T) {
	d := uint64(76)
	for range 20 {
		v := standing(t, lively(&d))
		ahead := v.State()
		one, two := mustSave(t, v), mustSave(t, v)
		want := bytes.Clone(one)
		overwrite(two, 0xee)
		_ = append(two, 0xee)
		wantStand(t, "saved bytes written over", v, ahead)
		if !bytes.Equal(one, want) {
			t.Fatal("saved bytes have changed with others")
		}
		from, all := roomy(one, 0x7b)
		allWas := bytes.Clone(all)
		w, x := mustLoad(t, from), mustLoad(t, from)
		if !bytes.Equal(all, allWas) {
			t.Fatal("Load has changed what it was handed")
		}
		overwrite(from, 0xee)
		wantStand(t, "loaded, the bytes written over", w, ahead)
		l := anyScript(&d, 20, 60)
		onAlike(t, "loaded, the bytes written over", v, w, l...)
		wantStand(t, "loaded from the same bytes", x, ahead)
		onAlike(t, "loaded from the same bytes", x, standing(t, ahead), l...)
		if !bytes.Equal(one, want) {
			t.Fatal("saved bytes have changed with the machine")
		}
	}
}

// R6: all goroutines have ended when a call answers. (One that is about to end is given the time to.)
func TestGoroutinesEnd(t *testing.T) {
	d := uint64(77)
	v := lit(t, 40)
	ahead := runtime.NumGoroutine()
	for range 200 {
		if _, e := v.Play(anyScript(&d, 3, whole)); e != api.OK {
			t.Fatal(e)
		}
		v.Play([]api.Span{{}})
		v.Play(nil)
		for wait := 0; runtime.NumGoroutine() > ahead; wait++ {
			if wait == 2000 {
				t.Fatalf("%d goroutines, %d ahead of Play", runtime.NumGoroutine(), ahead)
			}
			time.Sleep(time.Millisecond)
		}
	}
}

// R6, R7: machines know nothing of one another, though they are played, saved, loaded and made at the same time.
func TestSideBySide(t *testing.T) {
	d := uint64(78)
	base := gameVIP(t, 0x60, 0x05, 0xf0, 0x18, 0xc1, 0x3f, 0xf0, 0x29, 0xd1, 0x15, 0xf2, 0x07, 0x12, 0x00)
	l := anyScript(&d, 60, 300)
	for k := range l {
		l[k].Clear = false
	}
	first := base.Clone()
	want, e := first.Play(l)
	if e != api.OK || len(want.Frames) == 0 {
		t.Fatalf("%s, %d", briefFilm(want), e)
	}
	saved := mustSave(t, base)
	var all sync.WaitGroup
	for k := range 16 {
		v := base.Clone()
		all.Go(func() {
			if k%2 == 0 {
				v, _ = Load(saved)
			}
			c, _ := Game([]byte{byte(k)})
			f, e := v.Play(l)
			if e != api.OK || !sameFilm(f, want) || !sameBoard(v.State(), first.State()) || c.Image[512] != byte(k) {
				t.Errorf("machine %d: %s, %d", k, briefFilm(f), e)
			}
		})
	}
	all.Wait()
}
