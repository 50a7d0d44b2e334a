package frame

import (
	"slices"
	"testing"

	"vesper/api"
	"vesper/board"
	"vesper/pixie"
)

// anyRaster is one that may be.
func anyRaster(d *uint64) api.Raster {
	r := api.Raster{Line: draw(d, 262), Cycle: draw(d, 14), On: draw(d, 4) != 0}
	if r.Line >= 80 && r.Line < 208 && r.Cycle > 2 {
		r.Got = draw(d, min(8, r.Cycle-2)+1)
	}
	return r
}

// anyRecords may be; the chip is switched now and then, S2 is often.
func anyRecords(d *uint64, n int) []api.Record {
	l := make([]api.Record, n)
	for i := range l {
		l[i] = api.Record{Code: byte(draw(d, 4)), Address: uint16(draw(d, 65536)), Data: byte(draw(d, 256)), Q: draw(d, 2) == 0}
		switch draw(d, 5) {
		case 0:
			l[i].Write = true
		case 1, 2:
			l[i].Read = true
		case 3:
			l[i].Code, l[i].Read = api.S2, true
		}
		if draw(d, 4) == 0 {
			l[i].Port = byte(2 + draw(d, 6))
		}
		if draw(d, 300) == 0 {
			l[i].Port = 1
		}
		l[i].Mode = api.Mode(draw(d, 2))
		if draw(d, 900) == 0 {
			l[i].Mode = api.Mode(2 + draw(d, 2))
		}
	}
	return l
}

// P10.1, P10.6: any records from any raster on, against the twin; a frame has just what Takes says.
func TestSweep(t *testing.T) {
	d := uint64(8)
	frames, filled := 0, 0
	for range 120 {
		r := anyRaster(&d)
		l := anyRecords(&d, draw(&d, 4*cycles))
		f := mustOf(t, r, l)
		wantJustTaken(t, r, l, f)
		for k, x := range f {
			frames++
			if b := brief(f)[k]; b[1] > 0 && b[1] < 1024 {
				filled++
			}
			if k > 0 && x.From != f[k-1].From+3668 {
				t.Fatalf("From %d behind %d", x.From, f[k-1].From)
			}
			if s, e := Show(x); e != api.OK || s != twinShow(x) {
				t.Fatalf("Show of a frame of a trace: %d", e)
			}
			wantThereAndBack(t, x)
		}
	}
	if frames < 100 || filled < 50 {
		t.Errorf("%d frames, %d with some bytes", frames, filled)
	}
}

// wantJustTaken goes over a trace by pixie's own calls: what it takes within the frames, in order, is what they have.
func wantJustTaken(t *testing.T, r api.Raster, l []api.Record, f []api.Frame) {
	t.Helper()
	var want, got []byte
	for i, c := range l {
		d := api.Drive{Code: c.Code, Read: c.Read, Write: c.Write, Port: c.Port}
		within := slices.ContainsFunc(f, func(x api.Frame) bool { return i >= x.From && i < x.From+3668 })
		if within && pixie.Takes(r, d) {
			want = append(want, c.Data)
		}
		r = pixie.Step(r, d, c.Mode)
	}
	for _, x := range f {
		got = append(got, slices.Concat(x.Rows...)...)
	}
	if !slices.Equal(got, want) {
		t.Fatalf("%d bytes in the frames, %d were taken", len(got), len(want))
	}
}

// behind is where the raster stands behind the records.
func behind(r api.Raster, l []api.Record) api.Raster {
	for _, c := range l {
		r = pixie.Step(r, api.Drive{Code: c.Code, Read: c.Read, Write: c.Write, Port: c.Port}, c.Mode)
	}
	return r
}

// wantCut: P10.5 of a trace that is cut in two.
func wantCut(t *testing.T, r api.Raster, l []api.Record, all []api.Frame, n int) {
	t.Helper()
	first, second := mustOf(t, r, l[:n]), mustOf(t, behind(r, l[:n]), l[n:])
	both := slices.Clone(first)
	for _, f := range second {
		f.From += n
		both = append(both, f)
	}
	want := slices.DeleteFunc(slices.Clone(all), func(f api.Frame) bool { return f.From < n && n < f.From+cycles })
	if !sameFrames(both, want) {
		t.Fatalf("cut at %d: %v and %v; want %v", n, brief(first), brief(second), brief(want))
	}
}

// P10.5: a trace cut in two: at its ends, where a frame begins and ends, beside that, within a line that is shown, within one that is not, ahead of the first frame and behind the last one.
func TestCut(t *testing.T) {
	d := uint64(9)
	for _, r := range []api.Raster{pixie.Start(), {On: true}, {Line: 261, Cycle: 13, On: true}, {Line: 0, Cycle: 1}, {Line: 150, Cycle: 9, On: true, Got: 4}, anyRaster(&d)} {
		top := (cycles - at(r.Line, r.Cycle)) % cycles
		l := anyRecords(&d, top+3*cycles+500)
		all := mustOf(t, r, l)
		if len(all) != 3 {
			t.Fatalf("%v", brief(all))
		}
		places := []int{0, 1, 2, top, top / 2, len(l) - 1, len(l), len(l) - 250}
		for k := range 4 {
			b := top + k*cycles
			places = append(places, b-1, b, b+1)
			for _, line := range []int{40, 79, 80, 81, 144, 207, 208, 261} {
				places = append(places, b+at(line, 0)-1, b+at(line, 0), b+at(line, 2), b+at(line, 7), b+at(line, 13))
			}
		}
		for range 20 {
			places = append(places, draw(&d, len(l)+1))
		}
		for _, n := range places {
			if n >= 0 && n <= len(l) {
				wantCut(t, r, l, all, n)
			}
		}
	}
}

// scribble writes over frames, over their rows and over all the room behind their ends, and makes all of it grow.
func scribble(l []api.Frame) {
	for _, f := range l {
		for k, row := range f.Rows {
			overwrite(row, 0xee)
			f.Rows[k] = append(row, 0xee, 0xee)
		}
		overwrite(f.Rows, []byte{0xee})
		_ = append(f.Rows, []byte{0xee})
	}
	overwrite(l, api.Frame{From: -9})
	_ = append(l, api.Frame{From: -9})
}

func overwrite[T any](l []T, v T) {
	whole := l[:cap(l)]
	for i := range whole {
		whole[i] = v
	}
}

// P10.1 (R5): an answer is new memory: written over and grown, it changes no other answer, nor what was handed in.
func TestAnswersOfOf(t *testing.T) {
	d := uint64(10)
	r := api.Raster{Line: 250, On: true}
	l := anyRecords(&d, 3*cycles)
	was := slices.Clone(l)
	kept := mustOf(t, r, l)
	want := cloneFrames(kept)
	other, _ := Of(r, l)
	scribble(other)
	if !slices.Equal(l, was) || !sameFrames(kept, want) {
		t.Error("another answer, or the records, have changed")
	}
	overwrite(l, api.Record{Code: api.S2, Data: 0xee, Read: true})
	if !sameFrames(kept, want) {
		t.Error("the answer has changed with the records")
	}
	if again := mustOf(t, r, was); !sameFrames(again, want) {
		t.Error("the same records have other frames")
	}
}

// P10.1, P10.3 (R5): no two lists of one answer share memory, spare room included.
func TestListsOfOneAnswer(t *testing.T) {
	d := uint64(11)
	l := anyRecords(&d, 2*cycles)
	wantApart(t, func() []api.Frame { f, _ := Of(api.Raster{On: true}, l); return f })
	text := twinShow(anyFrame(&d))
	wantApart(t, func() []api.Frame { f, _ := Read(text); return []api.Frame{f} })
	half := empty()
	for k := range half.Rows {
		half.Rows[k] = []byte{1, 2, 3, 4, 5, 6, 7, 8}[:k%9]
	}
	wantApart(t, func() []api.Frame { f, _ := Read(twinShow(half)); return []api.Frame{f} })
}

// wantApart writes over one row after the other, with its spare room, and holds all others against what they were.
func wantApart(t *testing.T, fresh func() []api.Frame) {
	t.Helper()
	f, want := fresh(), cloneFrames(fresh())
	if len(f) == 0 || !sameFrames(f, want) {
		t.Fatalf("%v; want %v", brief(f), brief(want))
	}
	for i := range f {
		for k, row := range f[i].Rows {
			overwrite(row, 0xee)
			_ = append(row, 0xee)
			for b := range want[i].Rows[k] {
				want[i].Rows[k][b] = 0xee
			}
			if !sameFrames(f, want) {
				t.Fatalf("row %d of frame %d shares memory with another", k, i)
			}
		}
	}
	for i := range f {
		overwrite(f[i].Rows, []byte{1})
		f[i].Rows = append(f[i].Rows, []byte{2})
		if !sameFrames(f[i+1:], want[i+1:]) {
			t.Fatalf("the rows of frame %d share memory with the next", i)
		}
	}
}

// roomy is a list with marked room behind its end.
func roomy[T any](l []T, mark T) []T {
	return append(slices.Clone(l), mark, mark, mark)[:len(l)]
}

// P10.1 to P10.4 (R5): what is handed in is not changed, the room behind its end neither, and answers do not hang on it afterwards.
func TestWhatIsHandedIn(t *testing.T) {
	mark := api.Record{Code: api.S3, Data: 0x77}
	l := roomy(shownBytes(1, 4, 12), mark)
	was := slices.Clone(l[:len(l)+3])
	if _, e := Of(api.Raster{On: true}, l); e != api.OK || !slices.Equal(l[:len(l)+3], was) {
		t.Errorf("Of has changed its records: %d", e)
	}
	d := uint64(12)
	page := anyPage(&d)
	for _, f := range []api.Frame{paged(page), anyFrame(&d), empty()} {
		for k := range f.Rows {
			f.Rows[k] = roomy(f.Rows[k], 0x77)
		}
		f.Rows = roomy(f.Rows, []byte{0x77})
		before := cloneFrame(f)
		rooms := func() (out []byte) {
			for _, row := range f.Rows {
				out = append(out, row[:len(row)+3]...)
			}
			return append(out, slices.Concat(f.Rows[128:131]...)...)
		}
		room := rooms()
		text, _ := Show(f)
		p, is := Page(f)
		if !sameFrame(f, before) || !slices.Equal(rooms(), room) {
			t.Fatal("Show or Page has changed its frame")
		}
		if is {
			overwrite(p, 0xee)
			_ = append(p, 0xee)
			if !sameFrame(f, before) || !slices.Equal(rooms(), room) {
				t.Fatal("a page shares memory with its frame")
			}
		}
		wantKept(t, f, text)
	}
	f := paged(page)
	one, _ := Page(f)
	two, _ := Page(f)
	overwrite(two, 0xee)
	for k := range f.Rows {
		overwrite(f.Rows[k], 0xdd)
	}
	if !slices.Equal(one, page) {
		t.Error("a page has changed behind the call")
	}
}

// wantKept writes over a frame behind Show, and over one answer of Read while another is kept.
func wantKept(t *testing.T, f api.Frame, text string) {
	t.Helper()
	want := cloneFrame(f)
	want.From = 0
	for k := range f.Rows {
		overwrite(f.Rows[k], 0xdd)
	}
	if text != twinShow(want) {
		t.Fatal("a text has changed with its frame")
	}
	kept, _ := Read(text)
	other, _ := Read(text)
	scribble([]api.Frame{other})
	if !sameFrame(kept, want) {
		t.Fatal("an answer of Read has changed with another one")
	}
}

// P10.1 to P10.4 (T2): a machine that shows its memory: with the chip on and no one else's DMA, each frame has 1024 bytes, in lines of eight that follow on one another.
func TestMachine(t *testing.T) {
	rom := make([]byte, 512)
	copy(rom, []byte{0xf8, 0x80, 0xb3, 0xf8, 0x08, 0xa3, 0xd3}) // R3 is 8008, and P's
	// X is 3, no interrupts; the latch is let go; R0 is 0; the chip is on; then it stays there.
	copy(rom[8:], []byte{0xe3, 0x71, 0x33, 0x64, 0x00, 0xf8, 0x00, 0xb0, 0xa0, 0x69, 0x30, 0x12})
	d := uint64(13)
	page := anyPage(&d)
	image := make([]byte, 4096)
	for i := range image {
		image[i] = byte(draw(&d, 256))
	}
	for k := range 128 {
		copy(image[1024+8*k:], page[k/4*8:k/4*8+8])
	}
	b, e := board.New(4096, rom, image)
	if e != api.OK {
		t.Fatal(e)
	}
	raster := b.State().Raster
	l, e := b.Run([]api.Span{{Cycles: 4*cycles + 100}})
	if e != api.OK {
		t.Fatal(e)
	}
	f := mustOf(t, raster, l)
	if len(f) != 4 {
		t.Fatalf("%v", brief(f))
	}
	for k, x := range f {
		if x.From != k*cycles || x.Short || !slices.Equal(slices.Concat(x.Rows...), image[1024*k:1024*k+1024]) {
			t.Errorf("frame %d: %v", k, brief(f))
		}
		wantThereAndBack(t, x)
		if k != 1 {
			wantNoPage(t, "a frame of no page", x)
		}
	}
	wantPage(t, f[1], page)
	wantCut(t, raster, l, f, 2*cycles+2000)
}
