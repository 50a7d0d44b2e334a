package pixie

import (
	"math"
	"testing"

	"vesper/api"
)

var (
	allModes   = []api.Mode{api.Run, api.Pause, api.Reset, api.Load}
	wrongModes = []api.Mode{4, 5, 6, 7, 128, 255}
	// The lines at whose bounds something changes, and some within.
	edgeLines = []int{0, 1, 75, 76, 77, 78, 79, 80, 81, 143, 202, 203, 204, 205, 206, 207, 208, 209, 260, 261}

	fetches = api.Drive{Code: api.S0, Address: 0x1234, Read: true, Pulse: true}
	rests   = api.Drive{Code: api.S1, Read: true, Pulse: true}
	reads   = api.Drive{Code: api.S2, Address: 0x0f00, Read: true, Pulse: true}
	writes  = api.Drive{Code: api.S2, Address: 0x0f00, Write: true, Pulse: true}
	breaks  = api.Drive{Code: api.S3, Pulse: true}
	inp1    = api.Drive{Code: api.S1, Write: true, Port: 1, Pulse: true}
	out1    = api.Drive{Code: api.S1, Read: true, Port: 1, Pulse: true}
)

// draw is a row of numbers without rhyme that is the same in each run.
type draw uint64

func (d *draw) below(n int) int {
	*d = *d*6364136223846793005 + 1442695040888963407
	return int(uint64(*d) >> 33 % uint64(n))
}

func (d *draw) flag() bool { return d.below(2) == 1 }

// drive is any drive at all; ports and codes are most often those that count.
func (d *draw) drive() api.Drive {
	x := api.Drive{Code: byte(d.below(5)), Address: uint16(d.below(65536)), Read: d.flag(), Write: d.flag(), Own: d.flag(), Data: byte(d.below(256)), Port: byte(d.below(4)), Pulse: d.flag()}
	if d.below(16) == 0 {
		x.Code, x.Port = byte(d.below(256)), byte(d.below(256))
	}
	return x
}

// rasters are all of these lines that may be, on and off.
func rasters(lines ...int) []api.Raster {
	var all []api.Raster
	for _, line := range lines {
		for cycle := range 14 {
			for got := range 9 {
				for _, on := range []bool{false, true} {
					if r := (api.Raster{Line: line, Cycle: cycle, On: on, Got: got}); twinMayBe(r) {
						all = append(all, r)
					}
				}
			}
		}
	}
	return all
}

func everyLine() []int {
	all := make([]int, 262)
	for k := range all {
		all[k] = k
	}
	return all
}

// wrong are rasters that may not be: each number below and above its bounds, the others as they may be.
func wrong() []api.Raster {
	var all []api.Raster
	far := []int{math.MinInt, math.MinInt + 1, math.MinInt32, -256, -2, -1, 14, 15, 255, 256, 262, 263, 336, math.MaxInt32, math.MaxInt - 1, math.MaxInt}
	for _, on := range []bool{false, true} {
		for _, n := range far {
			for _, r := range []api.Raster{
				{Line: n, Cycle: 5, On: on}, {Line: n, On: on}, {Line: n, Cycle: 9, On: on, Got: 1},
				{Line: 78, Cycle: n, On: on}, {Line: 80, Cycle: n, On: on}, {Line: 100, Cycle: n, On: on, Got: 3}, {Line: 204, Cycle: n, On: on, Got: 8}, {Line: 261, Cycle: n, On: on},
				{Line: 78, Cycle: 13, On: on, Got: n}, {Line: 80, Cycle: 13, On: on, Got: n}, {Line: 207, Cycle: 13, On: on, Got: n}, {Line: 204, Cycle: 0, On: on, Got: n},
				{Line: n, Cycle: n, On: on, Got: n},
			} {
				if !twinMayBe(r) {
					all = append(all, r)
				}
			}
		}
		for _, line := range edgeLines {
			for cycle := -1; cycle <= 14; cycle++ {
				for got := -1; got <= 9; got++ {
					if r := (api.Raster{Line: line, Cycle: cycle, On: on, Got: got}); !twinMayBe(r) {
						all = append(all, r)
					}
				}
			}
		}
	}
	return all
}

// drives are all that the chip looks at: each code, reading and writing, the ports around 1; half of them have all else of a drive, half nothing.
func drives() []api.Drive {
	var all []api.Drive
	for _, code := range []byte{0, 1, 2, 3, 4, 6, 255} {
		for _, port := range []byte{0, 1, 2, 3, 4, 7, 9, 255} {
			for k := range 4 {
				d := api.Drive{Code: code, Read: k&1 != 0, Write: k&2 != 0, Port: port}
				more := d
				more.Address, more.Own, more.Data, more.Pulse = 0xffff, true, 0xff, true
				all = append(all, d, more)
			}
		}
	}
	return all
}

// hold holds all that the calls answer of a raster, a drive and a mode against the document's words.
func hold(t *testing.T, r api.Raster, d api.Drive, m api.Mode) {
	t.Helper()
	if got, want := Takes(r, d), twinTakes(r, d); got != want {
		t.Fatalf("Takes(%+v, %+v) = %v", r, d, got)
	}
	if got, want := Request(r, d), twinRequest(r, d); got != want {
		t.Fatalf("Request(%+v, %+v) = %v", r, d, got)
	}
	if got, want := Step(r, d, m), twinStep(r, d, m); got != want {
		t.Fatalf("Step(%+v, %+v, %d) = %+v, wanted %+v", r, d, m, got, want)
	}
}

// P5.1.
func TestStart(t *testing.T) {
	if got := Start(); got != (api.Raster{Line: 0, Cycle: 0, On: false, Got: 0}) {
		t.Errorf("Start() = %+v", got)
	}
	if e := Check(Start()); e != api.OK {
		t.Errorf("Check of it: %d", e)
	}
}

// P5.2: every raster whose numbers lie in and about their bounds.
func TestCheck(t *testing.T) {
	taken := 0
	for line := -3; line <= 265; line++ {
		for cycle := -3; cycle <= 17; cycle++ {
			for got := -3; got <= 13; got++ {
				for _, on := range []bool{false, true} {
					r, want := api.Raster{Line: line, Cycle: cycle, On: on, Got: got}, api.ErrPixieState
					if twinMayBe(r) {
						taken, want = taken+1, api.OK
					}
					if e := Check(r); e != want {
						t.Fatalf("Check(%+v) = %d", r, e)
					}
				}
			}
		}
	}
	// 134 lines of 14; 128 lines with 1, 1, 1, 2 .. 8, 9, 9, 9, 9 by their cycles.
	if want := 2 * (134*14 + 128*(3*1+2+3+4+5+6+7+8+4*9)); taken != want {
		t.Errorf("%d may be, wanted %d", taken, want)
	}
}

// P5.2: the edges one by one, as the document names them.
func TestCheckEdges(t *testing.T) {
	for _, x := range []struct {
		r    api.Raster
		want api.Errno
	}{
		{api.Raster{}, api.OK},
		{api.Raster{Line: 261, Cycle: 13, On: true}, api.OK},
		{api.Raster{Line: -1}, api.ErrPixieState},
		{api.Raster{Line: 262}, api.ErrPixieState},
		{api.Raster{Cycle: -1}, api.ErrPixieState},
		{api.Raster{Cycle: 14}, api.ErrPixieState},
		{api.Raster{Line: 80, Cycle: 13, Got: -1}, api.ErrPixieState},
		{api.Raster{Line: 80, Cycle: 13, Got: 8}, api.OK},
		{api.Raster{Line: 80, Cycle: 13, Got: 9}, api.ErrPixieState},
		{api.Raster{Line: 80, Cycle: 13, Got: 11}, api.ErrPixieState},
		{api.Raster{Line: 80, Cycle: 10, Got: 8}, api.OK},
		{api.Raster{Line: 80, Cycle: 9, Got: 8}, api.ErrPixieState},
		{api.Raster{Line: 80, Cycle: 9, Got: 7}, api.OK},
		{api.Raster{Line: 80, Cycle: 3, Got: 1}, api.OK},
		{api.Raster{Line: 80, Cycle: 3, Got: 2}, api.ErrPixieState},
		{api.Raster{Line: 80, Cycle: 2}, api.OK},
		{api.Raster{Line: 80, Cycle: 2, Got: 1}, api.ErrPixieState},
		{api.Raster{Line: 80}, api.OK},
		{api.Raster{Line: 80, Cycle: 1, Got: 1}, api.ErrPixieState},
		{api.Raster{Line: 80, Got: -2}, api.ErrPixieState},
		{api.Raster{Line: 207, Cycle: 13, Got: 8}, api.OK},
		{api.Raster{Line: 208, Cycle: 13, Got: 1}, api.ErrPixieState},
		{api.Raster{Line: 79, Cycle: 13, Got: 1}, api.ErrPixieState},
		{api.Raster{Line: 79, Cycle: 13}, api.OK},
		{api.Raster{Line: 0, Cycle: 13, Got: 8}, api.ErrPixieState},
	} {
		for _, on := range []bool{false, true} {
			r := x.r
			r.On = on
			if e := Check(r); e != x.want {
				t.Errorf("Check(%+v) = %d, wanted %d", r, e, x.want)
			}
		}
	}
}

// P5.2: of a raster that may not be nothing is answered.
func TestWrongRasters(t *testing.T) {
	for _, r := range wrong() {
		if e := Check(r); e != api.ErrPixieState {
			t.Fatalf("Check(%+v) = %d", r, e)
		}
		if Interrupt(r) || Flag(r) {
			t.Fatalf("%+v may not be: Interrupt %v, Flag %v", r, Interrupt(r), Flag(r))
		}
		for _, d := range []api.Drive{{}, fetches, rests, reads, writes, breaks, inp1, out1} {
			if Takes(r, d) || Request(r, d) {
				t.Fatalf("%+v, %+v: Takes %v, Request %v", r, d, Takes(r, d), Request(r, d))
			}
			for _, m := range append(allModes, wrongModes...) {
				if got := Step(r, d, m); got != (api.Raster{}) {
					t.Fatalf("Step(%+v, %+v, %d) = %+v", r, d, m, got)
				}
			}
		}
	}
}

// P5.2: of a mode that is none of the four Step answers a zero Raster.
func TestWrongModes(t *testing.T) {
	for _, r := range rasters(edgeLines...) {
		for m := 4; m < 256; m++ {
			for _, d := range []api.Drive{{}, rests, reads, inp1} {
				if got := Step(r, d, api.Mode(m)); got != (api.Raster{}) {
					t.Fatalf("Step(%+v, %+v, %d) = %+v", r, d, m, got)
				}
			}
		}
	}
}

// P5.3: each line, on and off, wherever the beam is within it.
func TestInterruptAndFlag(t *testing.T) {
	asked, flagged := map[int]bool{}, map[int]bool{}
	for _, r := range rasters(everyLine()...) {
		if got := Interrupt(r); got != twinInterrupt(r) {
			t.Fatalf("Interrupt(%+v) = %v", r, got)
		}
		if got := Flag(r); got != twinFlag(r) {
			t.Fatalf("Flag(%+v) = %v", r, got)
		}
		if Interrupt(r) {
			asked[r.Line] = true
		}
		if Flag(r) {
			flagged[r.Line] = true
		}
	}
	if len(asked) != 2 || !asked[78] || !asked[79] {
		t.Errorf("INT is asked for in the lines %v", asked)
	}
	if len(flagged) != 8 || !flagged[76] || !flagged[79] || !flagged[204] || !flagged[207] {
		t.Errorf("the flag is on in the lines %v", flagged)
	}
}

// P5.4, P5.5: every raster of the lines at the bounds, every drive that counts, every mode.
func TestEveryDriveAtTheEdges(t *testing.T) {
	all := drives()
	for _, r := range rasters(edgeLines...) {
		for _, d := range all {
			for _, m := range allModes {
				hold(t, r, d, m)
			}
		}
	}
}

// P5.4, P5.5: every raster that may be, a few drives, every mode.
func TestEveryRaster(t *testing.T) {
	for _, r := range rasters(everyLine()...) {
		for _, d := range []api.Drive{{}, fetches, rests, reads, writes, breaks, inp1, out1} {
			for _, m := range allModes {
				hold(t, r, d, m)
			}
		}
	}
}

// P5.4: what is wanted by line, cycle and Got.
func TestWants(t *testing.T) {
	for _, x := range []struct {
		line, cycle, got int
		want             bool
	}{
		{79, 2, 0, false}, {79, 13, 0, false}, {80, 0, 0, false}, {80, 1, 0, false}, {80, 2, 0, true}, {80, 3, 0, true}, {80, 3, 1, true}, {80, 12, 0, true}, {80, 13, 0, true},
		{80, 9, 7, true}, {80, 10, 8, false}, {80, 12, 7, true}, {80, 12, 8, false}, {80, 13, 7, true}, {80, 13, 8, false},
		{143, 5, 3, true}, {207, 1, 0, false}, {207, 2, 0, true}, {207, 13, 7, true}, {207, 13, 8, false}, {208, 2, 0, false}, {261, 13, 0, false}, {0, 2, 0, false},
	} {
		on := api.Raster{Line: x.line, Cycle: x.cycle, On: true, Got: x.got}
		off := on
		off.On = false
		for _, d := range []api.Drive{{}, fetches, rests, writes, breaks} {
			if Request(on, d) != x.want || Request(off, d) || Takes(on, d) || Takes(off, d) {
				t.Errorf("%+v, %+v: Request %v, Takes %v; off %v, %v", on, d, Request(on, d), Takes(on, d), Request(off, d), Takes(off, d))
			}
		}
		if Takes(on, reads) != x.want || Takes(off, reads) {
			t.Errorf("%+v: Takes of an S2 that reads %v; off %v", on, Takes(on, reads), Takes(off, reads))
		}
		if want := x.want && x.got != 7; Request(on, reads) != want || Request(off, reads) {
			t.Errorf("%+v: Request in an S2 that reads %v; off %v", on, Request(on, reads), Request(off, reads))
		}
	}
}

// P5.4: of a drive the code and whether it reads are looked at, nothing else.
func TestTakesLooksAtCodeAndRead(t *testing.T) {
	r := api.Raster{Line: 100, Cycle: 9, On: true, Got: 7}
	for code := range 256 {
		for k := range 16 {
			d := api.Drive{Code: byte(code), Read: k&1 != 0, Write: k&2 != 0, Own: k&4 != 0, Pulse: k&8 != 0, Port: byte(code % 8), Address: uint16(code * 257), Data: byte(code)}
			want := code == 2 && k&1 != 0
			if Takes(r, d) != want || Request(r, d) == want {
				t.Fatalf("%+v: Takes %v, Request %v", d, Takes(r, d), Request(r, d))
			}
		}
	}
}

// P5.5: what switches it, in each mode: port 1 written, read, both, neither; other ports do nothing.
func TestOn(t *testing.T) {
	for _, x := range []struct {
		d               api.Drive
		fromOff, fromOn bool
	}{
		{inp1, true, true}, {out1, false, false}, {api.Drive{Code: api.S1, Port: 1, Read: true, Write: true}, true, true}, {api.Drive{Code: api.S1, Port: 1, Pulse: true}, false, true},
		{api.Drive{Code: api.S1, Write: true}, false, true}, {api.Drive{Code: api.S1, Read: true}, false, true},
		{api.Drive{Code: api.S1, Port: 2, Write: true}, false, true}, {api.Drive{Code: api.S1, Port: 2, Read: true}, false, true},
		{api.Drive{Code: api.S1, Port: 3, Write: true}, false, true}, {api.Drive{Code: api.S1, Port: 3, Read: true}, false, true},
		{api.Drive{Code: api.S1, Port: 7, Write: true}, false, true}, {api.Drive{Code: api.S1, Port: 9, Read: true, Write: true}, false, true},
		{api.Drive{Code: api.S0, Port: 1, Write: true}, true, true}, {api.Drive{Code: api.S2, Port: 1, Read: true}, false, false}, {api.Drive{Code: 255, Port: 1, Write: true}, true, true},
	} {
		for _, m := range allModes {
			held := m == api.Run || m == api.Pause
			for _, at := range []api.Raster{{}, {Line: 78, Cycle: 13}, {Line: 80, Cycle: 5, Got: 2}, {Line: 261, Cycle: 13}} {
				if got := Step(at, x.d, m).On; got != (held && x.fromOff) {
					t.Errorf("off, %+v, mode %d: %v", x.d, m, got)
				}
				at.On = true
				if got := Step(at, x.d, m).On; got != (held && x.fromOn) {
					t.Errorf("on, %+v, mode %d: %v", x.d, m, got)
				}
			}
		}
	}
}

// P5.5: the last cycle of a line, and of the screen; what is taken there is gone.
func TestStepOverTheEnd(t *testing.T) {
	for _, x := range []struct{ r, want api.Raster }{
		{api.Raster{Line: 80, Cycle: 12, On: true, Got: 7}, api.Raster{Line: 80, Cycle: 13, On: true, Got: 8}},
		{api.Raster{Line: 80, Cycle: 12, On: true, Got: 8}, api.Raster{Line: 80, Cycle: 13, On: true, Got: 8}},
		{api.Raster{Line: 80, Cycle: 13, On: true, Got: 8}, api.Raster{Line: 81, On: true}},
		{api.Raster{Line: 80, Cycle: 13, On: true, Got: 7}, api.Raster{Line: 81, On: true}},
		{api.Raster{Line: 80, Cycle: 13, On: true}, api.Raster{Line: 81, On: true}},
		{api.Raster{Line: 79, Cycle: 13, On: true}, api.Raster{Line: 80, On: true}},
		{api.Raster{Line: 207, Cycle: 13, On: true, Got: 5}, api.Raster{Line: 208, On: true}},
		{api.Raster{Line: 260, Cycle: 13}, api.Raster{Line: 261}},
		{api.Raster{Line: 261, Cycle: 12, On: true}, api.Raster{Line: 261, Cycle: 13, On: true}},
		{api.Raster{Line: 261, Cycle: 13, On: true}, api.Raster{On: true}},
	} {
		if got := Step(x.r, reads, api.Run); got != x.want {
			t.Errorf("Step(%+v) = %+v, wanted %+v", x.r, got, x.want)
		}
	}
}

// P5.5: a cycle of Reset or Load switches it off from the next cycle on; the byte of this very one is taken yet, and the beam goes on in every mode.
func TestByteInACycleOfReset(t *testing.T) {
	at := api.Raster{Line: 100, Cycle: 4, On: true, Got: 1}
	for _, m := range allModes {
		want := api.Raster{Line: 100, Cycle: 5, On: m == api.Run || m == api.Pause, Got: 2}
		if got := Step(at, reads, m); got != want {
			t.Errorf("mode %d: %+v, wanted %+v", m, got, want)
		}
	}
}

// Examples of the chapter.
func TestExamples(t *testing.T) {
	at78 := api.Raster{Line: 78}
	if Interrupt(at78) || !Flag(at78) {
		t.Errorf("line 78, off")
	}
	at78.On = true
	if !Interrupt(at78) || !Flag(at78) {
		t.Errorf("line 78, on")
	}
	for line, want := range map[int]bool{76: true, 79: true, 80: false, 203: false, 204: true, 207: true, 208: false} {
		if Flag(api.Raster{Line: line}) != want {
			t.Errorf("Flag in line %d", line)
		}
	}
	for _, d := range drives() {
		if Request(api.Raster{Line: 80, Cycle: 1, On: true}, d) {
			t.Errorf("line 80, cycle 1, %+v: a request", d)
		}
	}
	if !Request(api.Raster{Line: 80, Cycle: 2, On: true}, fetches) {
		t.Errorf("line 80, cycle 2, S0: no request")
	}
	r := api.Raster{Line: 80, Cycle: 3, On: true}
	if !Takes(r, reads) || !Request(r, reads) || Step(r, reads, api.Run) != (api.Raster{Line: 80, Cycle: 4, On: true, Got: 1}) {
		t.Errorf("line 80, cycle 3: then %+v", Step(r, reads, api.Run))
	}
	r = api.Raster{Line: 80, Cycle: 12, On: true, Got: 7}
	last := Step(r, reads, api.Run)
	if !Takes(r, reads) || Request(r, reads) || last.Got != 8 || Takes(last, reads) || Request(last, fetches) {
		t.Errorf("line 80, cycle 12, Got 7: then %+v", last)
	}
	if got := Step(api.Raster{Line: 80, Cycle: 13, On: true, Got: 5}, reads, api.Run); got != (api.Raster{Line: 81, On: true}) {
		t.Errorf("line 80, cycle 13: then %+v", got)
	}
	if got := Step(api.Raster{Line: 261, Cycle: 13}, fetches, api.Run); got != (api.Raster{}) {
		t.Errorf("line 261, cycle 13: then %+v", got)
	}
	if !Step(Start(), inp1, api.Run).On || Step(Start(), inp1, api.Reset).On {
		t.Errorf("INP 1")
	}
	for _, r := range []api.Raster{{Line: 80, Cycle: 4, Got: 3}, {Line: 79, Cycle: 4, Got: 1}} {
		if Check(r) != api.ErrPixieState {
			t.Errorf("%+v may be", r)
		}
	}
}
