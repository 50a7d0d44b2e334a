package pixie

import (
	"testing"

	"vesper/api"
)

const frame = 14 * 262

// cycle is any drive and mode; Reset and Load are seldom, and so is port 1, that the chip may stay on for a while.
func (d *draw) cycle() (api.Drive, api.Mode) {
	x, m := d.drive(), allModes[d.below(2)]
	if d.below(400) == 0 {
		m = allModes[2+d.below(2)]
	}
	if x.Port == 1 && d.below(20) != 0 {
		x.Port = 0
	}
	if d.below(3) == 0 {
		x = reads
	}
	return x, m
}

// P5.6, P5.8: whatever is done, from many a beginning: it may be again; line and cycle come back; no more than eight bytes of a line, none of a line that is not shown; what it takes and asks for it wants; off it does neither.
func TestWhateverIsDone(t *testing.T) {
	seed := draw(5)
	beginnings := append([]api.Raster{Start()}, rasters(0, 78, 80, 206, 261)...)
	full := 0
	for k := 0; k < len(beginnings); k += 7 {
		r := beginnings[k]
		of := r.Got
		for range frame {
			d, m := seed.cycle()
			takes, asks := Takes(r, d), Request(r, d)
			if (takes || asks) && !twinWants(r) {
				t.Fatalf("%+v, %+v: Takes %v, Request %v", r, d, takes, asks)
			}
			if takes {
				of++
			}
			if of > 8 || of > 0 && (r.Line < 80 || r.Line > 207) {
				t.Fatalf("%+v: %d bytes of this line", r, of)
			}
			next := Step(r, d, m)
			if Check(next) != api.OK || next != twinStep(r, d, m) {
				t.Fatalf("Step(%+v, %+v, %d) = %+v", r, d, m, next)
			}
			if next.Line != r.Line {
				if of == 8 {
					full++
				}
				of = 0
			}
			if next.Got != of {
				t.Fatalf("Step(%+v, %+v, %d) = %+v: %d bytes were taken", r, d, m, next, of)
			}
			r = next
		}
		if r.Line != beginnings[k].Line || r.Cycle != beginnings[k].Cycle {
			t.Fatalf("from %+v on, behind a frame: %+v", beginnings[k], r)
		}
	}
	if full == 0 {
		t.Errorf("no line had all its bytes")
	}
}

// P5.6: each raster that may be, each mode: the step may be again.
func TestStepMayBeAgain(t *testing.T) {
	for _, r := range rasters(everyLine()...) {
		for _, d := range []api.Drive{{}, reads, writes, inp1, out1} {
			for _, m := range allModes {
				if n := Step(r, d, m); Check(n) != api.OK {
					t.Fatalf("Step(%+v, %+v, %d) = %+v", r, d, m, n)
				}
			}
		}
	}
}

// P5.6: not sooner than behind a frame, and behind two, whether it is on or off.
func TestOnceOverTheScreen(t *testing.T) {
	for _, on := range []bool{false, true} {
		r := api.Raster{On: on}
		seen := map[[2]int]int{}
		for range 2 * frame {
			seen[[2]int{r.Line, r.Cycle}]++
			r = Step(r, fetches, api.Run)
		}
		if r != (api.Raster{On: on}) || len(seen) != frame {
			t.Errorf("behind two frames: %+v, %d places", r, len(seen))
		}
		for at, n := range seen {
			if n != 2 {
				t.Fatalf("%v was %d times", at, n)
			}
		}
	}
}

// P5.7: eight reads from cycle 5 to 12 are enough, whatever the others are, as long as it stays on; with more of them it is not more than eight.
func TestEightAtTheEnd(t *testing.T) {
	seed := draw(7)
	for _, line := range []int{80, 81, 143, 206, 207} {
		for k := range 200 {
			r, taken := api.Raster{Line: line, On: true}, 0
			for cycle := range 14 {
				d := seed.drive()
				if k%2 == 0 {
					d = api.Drive{}
				}
				if d.Port == 1 {
					d.Port = 0
				}
				if cycle >= 5 && cycle <= 12 {
					d = reads
				}
				if Takes(r, d) {
					taken++
				}
				if cycle == 13 && r.Got != 8 {
					t.Fatalf("line %d in its last cycle: %+v", line, r)
				}
				r = Step(r, d, allModes[seed.below(2)])
			}
			if taken != 8 || r.Got != 0 || r.Line != line+1 {
				t.Fatalf("line %d: %d bytes, then %+v", line, taken, r)
			}
		}
	}
}

// P5.7: that the eight must be there: with one of them lacking, and nothing else, there are seven.
func TestSevenAtTheEnd(t *testing.T) {
	for lack := 5; lack <= 12; lack++ {
		r, taken := api.Raster{Line: 90, On: true}, 0
		for cycle := range 14 {
			d := fetches
			if cycle >= 5 && cycle <= 12 && cycle != lack {
				d = reads
			}
			if Takes(r, d) {
				taken++
			}
			r = Step(r, d, api.Run)
		}
		if taken != 7 {
			t.Errorf("without cycle %d: %d bytes", lack, taken)
		}
	}
}

// P5.4, P5.5: a processor that gives what is asked for, a cycle later, gives just eight bytes in a row; a frame of them is 1024.
func TestAFrameOfBytes(t *testing.T) {
	r, asked, all := Step(api.Raster{Line: 261, Cycle: 13}, inp1, api.Run), false, 0
	for range frame {
		d := fetches
		if asked {
			d = reads
		}
		if Takes(r, d) != asked {
			t.Fatalf("%+v: asked for %v, taken %v", r, asked, Takes(r, d))
		}
		if Takes(r, d) {
			all++
		}
		asked = Request(r, d)
		r = Step(r, d, api.Run)
	}
	if all != api.FrameBytes || r != (api.Raster{On: true}) {
		t.Errorf("%d bytes, then %+v", all, r)
	}
}

// P5.8: each raster that may be, each drive that counts: it wants what it takes and asks for; off it does neither.
func TestTakenIsWanted(t *testing.T) {
	all := drives()
	for _, r := range rasters(79, 80, 143, 207, 208) {
		for _, d := range all {
			if Takes(r, d) && !twinWants(r) || Request(r, d) && !twinWants(r) {
				t.Fatalf("%+v, %+v: Takes %v, Request %v", r, d, Takes(r, d), Request(r, d))
			}
			if !r.On && (Interrupt(r) || Takes(r, d) || Request(r, d)) {
				t.Fatalf("%+v is off, %+v: Interrupt %v, Takes %v, Request %v", r, d, Interrupt(r), Takes(r, d), Request(r, d))
			}
		}
	}
	for _, r := range rasters(78, 79) {
		if Interrupt(r) != r.On {
			t.Fatalf("Interrupt(%+v) = %v", r, Interrupt(r))
		}
	}
}
