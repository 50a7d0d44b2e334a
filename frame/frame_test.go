package frame

import (
	"math"
	"slices"
	"testing"

	"vesper/api"
	"vesper/pixie"
)

// shownBytes are the records of so many frames, from line 0, cycle 0 on, in which each shown line reads by S2 in each of those cycles; the byte is the record's number.
func shownBytes(frames, from, to int) []api.Record {
	l := fetches(frames * cycles)
	for i := range l {
		line, cycle := i%cycles/14, i%14
		if line >= 80 && line < 208 && cycle >= from && cycle < to {
			l[i].Code = api.S2
		}
		l[i].Data = byte(i ^ i>>8)
	}
	return l
}

// allReads are records of S2 that all read, whatever the line is.
func allReads(n int) []api.Record {
	l := make([]api.Record, n)
	for i := range l {
		l[i] = api.Record{Code: api.S2, Data: byte(i ^ i>>8), Read: true}
	}
	return l
}

func at(line, cycle int) int { return 14*line + cycle }

// wantRefused holds that Of answers an error, and nothing beside it.
func wantRefused(t *testing.T, r api.Raster, l []api.Record, want api.Errno) {
	t.Helper()
	if f, e := Of(r, l); f != nil || e != want {
		t.Errorf("Of %+v and %d records: %v, %d; want %d", r, len(l), brief(f), e, want)
	}
}

// wantRows holds that one frame has just these bytes in these rows.
func wantRows(t *testing.T, f []api.Frame, want map[int][]byte) {
	t.Helper()
	if len(f) != 1 {
		t.Fatalf("%v", brief(f))
	}
	for k, row := range f[0].Rows {
		if !slices.Equal(row, want[k]) {
			t.Errorf("row %d: %x; want %x", k, row, want[k])
		}
	}
}

var wrongRasters = []api.Raster{
	{Line: -1}, {Line: 262}, {Line: math.MaxInt}, {Line: math.MinInt},
	{Cycle: -1}, {Cycle: 14}, {Line: 80, Cycle: 14}, {Cycle: math.MaxInt}, {Cycle: math.MinInt},
	{Got: -1}, {Got: 1}, {Line: 79, Got: 1, On: true}, {Line: 208, Cycle: 13, Got: 1}, {Line: 80, Cycle: 2, Got: 1},
	{Line: 80, Cycle: 4, Got: 3}, {Line: 207, Cycle: 13, Got: 9, On: true}, {Line: 100, Cycle: 13, Got: math.MinInt},
}

// wrongRecords may not be; each has one thing wrong with it, or several.
var wrongRecords = []api.Record{
	{Code: 4}, {Code: 5}, {Code: 128}, {Code: 255}, {Code: 6, Read: true},
	{Port: 8}, {Port: 9}, {Port: 128}, {Port: 255},
	{Mode: 4}, {Mode: 5}, {Mode: 128}, {Mode: 255},
	{Read: true, Write: true}, {Code: 2, Address: 5, Data: 6, Read: true, Write: true, Port: 1, Q: true, Mode: api.Load},
	{Code: 4, Port: 8, Mode: 4, Read: true, Write: true},
}

// P10.1: a raster that may not be, with no record, with few, with whole frames.
func TestWrongRaster(t *testing.T) {
	for _, r := range wrongRasters {
		for _, n := range []int{0, 1, 3668, 7400} {
			wantRefused(t, r, fetches(n), api.ErrPixieState)
		}
	}
}

// P10.1: one record that may not be is enough: ahead of a whole frame, within it, behind it, and where there is none.
func TestWrongRecord(t *testing.T) {
	for _, wrong := range wrongRecords {
		wantRefused(t, pixie.Start(), []api.Record{wrong}, api.ErrArg)
		for _, r := range []api.Raster{pixie.Start(), {Line: 261, Cycle: 10, On: true}, {Line: 100, Cycle: 5, Got: 2}} {
			ahead := (cycles - at(r.Line, r.Cycle)) % cycles
			l := fetches(ahead + cycles + 5)
			mustOf(t, r, l)
			for _, i := range []int{0, ahead - 1, ahead, ahead + 1, ahead + 2000, ahead + cycles - 1, ahead + cycles, len(l) - 1} {
				if i < 0 {
					continue
				}
				was := l[i]
				l[i] = wrong
				wantRefused(t, r, l, api.ErrArg)
				l[i] = was
			}
		}
	}
}

// P10.1: every record's fields that may be, and none that may not.
func TestWhichRecordsMayBe(t *testing.T) {
	l := fetches(cycles)
	for code := range 6 {
		for port := range 10 {
			for mode := range 6 {
				for k := range 8 {
					r := api.Record{Code: byte(code), Address: 7, Data: 9, Port: byte(port), Mode: api.Mode(mode), Read: k&1 != 0, Write: k&2 != 0, Q: k&4 != 0}
					l[at(90, 5)] = r
					if code > 3 || port > 7 || mode > 3 || k&3 == 3 {
						wantRefused(t, api.Raster{On: true}, l, api.ErrArg)
						continue
					}
					f, e := Of(api.Raster{On: true}, l)
					if e != api.OK || len(f) != 1 {
						t.Fatalf("with %+v: %v, %d", r, brief(f), e)
					}
					var want []byte
					if code == 2 && k&1 != 0 {
						want = []byte{9}
					}
					if !slices.Equal(f[0].Rows[10], want) {
						t.Fatalf("with %+v: row 10 is %x", r, f[0].Rows[10])
					}
				}
			}
		}
	}
}

// P10.1: no record at all, nil or empty, wherever the raster stands.
func TestNoRecord(t *testing.T) {
	for _, r := range []api.Raster{{}, {On: true}, {Line: 261, Cycle: 13}, {Line: 100, Cycle: 12, On: true, Got: 8}} {
		for _, l := range [][]api.Record{nil, {}} {
			if f, e := Of(r, l); len(f) != 0 || e != api.OK {
				t.Errorf("Of %+v and none: %v, %d", r, brief(f), e)
			}
		}
	}
}

// P10.1: 4194304 records, and one more; of two wrongs the raster's is told ahead of the length, and that ahead of a record.
func TestMostRecords(t *testing.T) {
	l := allReads(api.MaxCycles + 1)
	most := l[:4194304]
	f, e := Of(api.Raster{On: true}, most)
	if e != api.OK || len(f) != 1143 || f[1142].From != 1142*cycles {
		t.Fatalf("Of 4194304 records: %d frames, %d", len(f), e)
	}
	if want := twinOf(api.Raster{On: true}, most); !sameFrames(f, want) {
		t.Error("Of 4194304 records: other frames")
	}
	wantRefused(t, pixie.Start(), l, api.ErrLong)
	wantRefused(t, api.Raster{Line: 5, Cycle: 5}, append(l, l[:9]...), api.ErrLong)
	wrong := api.Raster{Line: 80, Cycle: 14}
	wantRefused(t, wrong, l, api.ErrPixieState)
	for _, i := range []int{0, 5, 4194303, 4194304} {
		was := l[i]
		l[i].Port = 8
		wantRefused(t, pixie.Start(), l, api.ErrLong)
		wantRefused(t, wrong, l, api.ErrPixieState)
		wantRefused(t, wrong, l[:i+1], api.ErrPixieState)
		if i < len(most) {
			wantRefused(t, pixie.Start(), most, api.ErrArg)
		}
		l[i] = was
	}
}

// P10.1, P10.6: where frames begin and end: from each place at which a raster may stand, one record ahead of a frame's end, at it, and behind it; one, two and three frames.
func TestWhereFramesLie(t *testing.T) {
	l := fetches(4 * cycles)
	for line := range 262 {
		for cycle := range 14 {
			r := api.Raster{Line: line, Cycle: cycle}
			first := (cycles - at(line, cycle)) % cycles
			for frames := range 4 {
				for _, more := range []int{-1, 0, 1} {
					n, want := first+frames*cycles+more, frames
					if n < 0 {
						continue
					}
					if more < 0 {
						want = max(0, frames-1)
					}
					if (line%40 != 0 || cycle%6 != 0) && n > cycles+20 {
						continue
					}
					f, e := Of(r, l[:n])
					if e != api.OK || len(f) != want {
						t.Fatalf("Of %+v and %d records: %v, %d; want %d", r, n, brief(f), e, want)
					}
					for k := range f {
						if f[k].From != first+k*cycles {
							t.Fatalf("Of %+v and %d records: %v", r, n, brief(f))
						}
					}
				}
			}
		}
	}
}

// P10.1: rows of none, of each number of bytes up to 8, and never more; the frame has all lines from 80 to 207, none else.
func TestHowManyBytes(t *testing.T) {
	for _, x := range []struct{ from, to, first, count int }{
		{2, 2, 2, 0}, {0, 2, 2, 0}, {2, 3, 2, 1}, {0, 3, 2, 1}, {13, 14, 13, 1}, {2, 4, 2, 2}, {5, 8, 5, 3}, {4, 8, 4, 4}, {9, 14, 9, 5},
		{2, 8, 2, 6}, {7, 14, 7, 7}, {2, 9, 2, 7}, {2, 10, 2, 8}, {4, 12, 4, 8}, {6, 14, 6, 8}, {2, 11, 2, 8}, {2, 14, 2, 8}, {0, 14, 2, 8},
	} {
		l := shownBytes(1, x.from, x.to)
		f := mustOf(t, api.Raster{On: true}, l)
		want := map[int][]byte{}
		for k := range 128 {
			for i := range x.count {
				want[k] = append(want[k], l[at(80+k, x.first+i)].Data)
			}
		}
		wantRows(t, f, want)
		if f[0].Short != (x.count < 8) {
			t.Errorf("%d bytes a line: Short %v", x.count, f[0].Short)
		}
	}
}

// P10.1, P10.6: what S2 reads in the lines 79 and 208 is in no row, what it reads in 80 and 207 in the first and the last one.
func TestEdgesOfWhatIsShown(t *testing.T) {
	for line, row := range map[int]int{0: -1, 78: -1, 79: -1, 80: 0, 81: 1, 206: 126, 207: 127, 208: -1, 209: -1, 261: -1} {
		l := fetches(cycles)
		for cycle := range 14 {
			l[at(line, cycle)] = api.Record{Code: api.S2, Read: true, Data: byte(0x30 + cycle)}
		}
		want := map[int][]byte{}
		if row >= 0 {
			want[row] = []byte{0x32, 0x33, 0x34, 0x35, 0x36, 0x37, 0x38, 0x39}
		}
		wantRows(t, mustOf(t, api.Raster{On: true}, l), want)
		wantRows(t, mustOf(t, api.Raster{}, l), nil)
	}
	f := mustOf(t, api.Raster{On: true}, allReads(cycles))
	if f[0].Short || f[0].Rows[0][0] != allReads(cycles)[at(80, 2)].Data {
		t.Errorf("S2 throughout: %v, %x", brief(f), f[0].Rows[0])
	}
}

// P10.6: off throughout, a frame is short and empty, whatever is read by S2.
func TestOffThroughout(t *testing.T) {
	for _, l := range [][]api.Record{allReads(2 * cycles), shownBytes(2, 4, 12)} {
		f, e := Of(pixie.Start(), l)
		want := []api.Frame{empty(), empty()}
		want[1].From = cycles
		if e != api.OK || !sameFrames(f, want) {
			t.Errorf("off throughout: %v, %d", brief(f), e)
		}
	}
}

// P10.1: switched on and off within a frame, from the next cycle on; at other ports nothing comes of it.
func TestSwitched(t *testing.T) {
	inp, out := api.Record{Code: api.S1, Write: true, Port: 1}, api.Record{Code: api.S1, Read: true, Port: 1}
	l := shownBytes(1, 4, 12)
	row := func(line, from, to int) (b []byte) {
		for c := from; c < to; c++ {
			b = append(b, l[at(line, c)].Data)
		}
		return b
	}
	put := func(r api.Record, line, cycle int) { l[at(line, cycle)] = r }
	put(inp, 100, 3)
	put(out, 101, 8)
	put(inp, 103, 6)
	put(out, 104, 13)
	put(inp, 207, 10)
	want := map[int][]byte{20: row(100, 4, 12), 21: row(101, 4, 8), 23: row(103, 7, 12), 24: row(104, 4, 12), 127: row(207, 11, 12)}
	wantRows(t, mustOf(t, pixie.Start(), l), want)
	inp.Port, out.Port = 2, 3
	put(inp, 100, 3)
	put(out, 101, 8)
	put(out, 104, 13)
	want = map[int][]byte{23: row(103, 7, 12), 127: row(207, 11, 12)}
	for line := 104; line < 207; line++ {
		want[line-80] = row(line, 4, 12)
	}
	want[127] = append(row(207, 4, 10), row(207, 11, 12)...)
	wantRows(t, mustOf(t, pixie.Start(), l), want)
}

// P10.1: what is switched in one frame holds in the next one.
func TestSwitchedForTheNextFrame(t *testing.T) {
	l := shownBytes(4, 4, 12)
	l[at(250, 3)] = api.Record{Code: api.S1, Write: true, Port: 1}
	l[2*cycles+at(20, 3)] = api.Record{Code: api.S1, Read: true, Port: 1}
	f := mustOf(t, pixie.Start(), l)
	want := [][3]int{{0, 0, 1}, {cycles, 1024, 0}, {2 * cycles, 0, 1}, {3 * cycles, 0, 1}}
	if !slices.Equal(brief(f), want) {
		t.Errorf("%v; want %v", brief(f), want)
	}
	// The same beginning behind line 250 is no frame, but it switches.
	f = mustOf(t, api.Raster{Line: 250, Cycle: 3}, l[at(250, 3):])
	if len(f) != 3 || f[0].From != cycles-at(250, 3) || f[0].Short || !f[1].Short {
		t.Errorf("from line 250 on: %v", brief(f))
	}
}

// P10.1: each mode: Pause goes on as Run; Reset and Load switch the chip off behind the cycle, whose own byte counts yet.
func TestModes(t *testing.T) {
	for mode, stays := range map[api.Mode]bool{api.Run: true, api.Pause: true, api.Reset: false, api.Load: false} {
		l := shownBytes(1, 4, 12)
		l[at(120, 6)].Mode = mode
		f := mustOf(t, api.Raster{On: true}, l)
		wantBytes := 40*8 + 3
		if stays {
			wantBytes = 1024
		}
		if b := brief(f); len(b) != 1 || b[0][1] != wantBytes {
			t.Errorf("mode %d in line 120: %v; want %d bytes", mode, b, wantBytes)
		}
		for i := range l {
			l[i].Mode = mode
		}
		f = mustOf(t, api.Raster{On: true}, l)
		if f[0].Short == stays {
			t.Errorf("mode %d throughout: %v", mode, brief(f))
		}
		l[at(70, 3)] = api.Record{Code: api.S1, Write: true, Port: 1, Mode: mode}
		f = mustOf(t, pixie.Start(), l)
		if f[0].Short == stays {
			t.Errorf("mode %d, INP 1 in line 70: %v", mode, brief(f))
		}
	}
}

// P10.1: a frame of 1023 bytes is short, wherever the one that it has not got would be; one of 1024 is not.
func TestShort(t *testing.T) {
	l := shownBytes(1, 4, 12)
	if f := mustOf(t, api.Raster{On: true}, l); f[0].Short {
		t.Error("a frame of 1024 bytes is short")
	}
	for k := range 128 {
		i := at(80+k, 4+k%8)
		l[i].Code = api.S1
		f := mustOf(t, api.Raster{On: true}, l)
		if !f[0].Short || len(f[0].Rows[k]) != 7 || brief(f)[0][1] != 1023 {
			t.Fatalf("a frame of 1023 bytes: %v", brief(f))
		}
		l[i].Code = api.S2
	}
}

// P10.1: what the raster has got of a line ahead of the trace counts for that line; the frame is none.
func TestBegunWithinALine(t *testing.T) {
	for got := range 9 {
		r := api.Raster{Line: 207, Cycle: 12, On: true, Got: got}
		l := allReads(14*262 - at(207, 12) + cycles)
		f := mustOf(t, r, l)
		if len(f) != 1 || f[0].From != 14*262-at(207, 12) || f[0].Short {
			t.Errorf("Of %+v: %v", r, brief(f))
		}
	}
}

// P10.1: of a record its Address and Q are not looked at; its Data is what stands in the row.
func TestWhatIsNotLookedAt(t *testing.T) {
	l := shownBytes(1, 4, 12)
	want := mustOf(t, api.Raster{On: true}, l)
	for i := range l {
		l[i].Address, l[i].Q = uint16(i*77), i%3 == 0
	}
	if f := mustOf(t, api.Raster{On: true}, l); !sameFrames(f, want) {
		t.Errorf("%v; want %v", brief(f), brief(want))
	}
	for i := range l {
		l[i].Data = ^l[i].Data
	}
	f := mustOf(t, api.Raster{On: true}, l)
	if f[0].Rows[77][5] != ^want[0].Rows[77][5] {
		t.Errorf("row 77: %x", f[0].Rows[77])
	}
}
