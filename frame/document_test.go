package frame

import (
	"regexp"
	"slices"
	"strings"
	"testing"

	"vesper/api"
	"vesper/pixie"
)

const cycles = 3668 // of a frame

// draw is the next of a row of numbers that is always the same, below n.
func draw(d *uint64, n int) int {
	*d = *d*6364136223846793005 + 1442695040888963407
	return int(*d >> 33 % uint64(n))
}

// twinTaken tells of each record whether the chip took its byte, by the words of DOC.md's video chip: where the beam is comes by counting.
func twinTaken(r api.Raster, l []api.Record) []bool {
	taken := make([]bool, len(l))
	on, got := r.On, r.Got
	for i, c := range l {
		place := (14*r.Line + r.Cycle + i) % cycles
		line, cycle := place/14, place%14
		if cycle == 0 {
			got = 0
		}
		wants := on && 80 <= line && line <= 207 && cycle >= 2 && got < 8
		if wants && c.Code == 2 && c.Read {
			taken[i] = true
			got++
		}
		switch {
		case c.Mode == api.Reset || c.Mode == api.Load:
			on = false
		case c.Port == 1 && c.Write:
			on = true
		case c.Port == 1 && c.Read:
			on = false
		}
	}
	return taken
}

// twinOf are the frames of a raster and records that may be: where they begin is known beforehand.
func twinOf(r api.Raster, l []api.Record) []api.Frame {
	taken := twinTaken(r, l)
	var out []api.Frame
	for from := (cycles - 14*r.Line - r.Cycle) % cycles; from+cycles <= len(l); from += cycles {
		f := api.Frame{From: from, Rows: make([][]byte, 128)}
		sum := 0
		for i := from; i < from+cycles; i++ {
			if taken[i] {
				k := (i-from)/14 - 80
				f.Rows[k] = append(f.Rows[k], l[i].Data)
				sum++
			}
		}
		f.Short = sum < 1024
		out = append(out, f)
	}
	return out
}

// twinShow is the text of a frame that may be.
func twinShow(f api.Frame) string {
	var text strings.Builder
	for _, row := range f.Rows {
		for _, b := range row {
			for weight := 128; weight > 0; weight /= 2 {
				text.WriteByte(".#"[int(b)/weight%2])
			}
		}
		text.WriteByte('\n')
	}
	return text.String()
}

var rowLine = regexp.MustCompile(`\A([#.]{8}){0,8}\z`)

// twinReads tells whether a text is one that Show writes of some frame.
func twinReads(text string) bool {
	lines := strings.Split(text, "\n")
	if len(lines) != 129 || lines[128] != "" {
		return false
	}
	for _, line := range lines[:128] {
		if !rowLine.MatchString(line) {
			return false
		}
	}
	return true
}

// sameFrames holds frames against each other; rows that are nil and empty are the same.
func sameFrames(a, b []api.Frame) bool { return slices.EqualFunc(a, b, sameFrame) }

func sameFrame(a, b api.Frame) bool {
	return a.From == b.From && a.Short == b.Short && slices.EqualFunc(a.Rows, b.Rows, slices.Equal)
}

func cloneFrame(f api.Frame) api.Frame {
	rows := make([][]byte, len(f.Rows))
	for k := range rows {
		rows[k] = slices.Clone(f.Rows[k])
	}
	f.Rows = rows
	return f
}

func cloneFrames(l []api.Frame) []api.Frame {
	var out []api.Frame
	for _, f := range l {
		out = append(out, cloneFrame(f))
	}
	return out
}

// mustOf are the frames of a raster and records that may be, held against the twin.
func mustOf(t *testing.T, r api.Raster, l []api.Record) []api.Frame {
	t.Helper()
	got, e := Of(r, l)
	if want := twinOf(r, l); e != api.OK || !sameFrames(got, want) {
		t.Fatalf("Of %+v and %d records: %v, %d; want %v", r, len(l), brief(got), e, brief(want))
	}
	return got
}

// brief is what tells frames apart in few words: where they begin, how many bytes they have, and whether they are short.
func brief(l []api.Frame) (out [][3]int) {
	for _, f := range l {
		x := [3]int{f.From, len(slices.Concat(f.Rows...)), 0}
		if f.Short {
			x[2] = 1
		}
		out = append(out, x)
	}
	return out
}

func fetches(n int) []api.Record {
	return slices.Repeat([]api.Record{{Code: api.S0, Read: true}}, n)
}

func empty() api.Frame { return api.Frame{Rows: make([][]byte, 128), Short: true} }

// P10.1: the chapter's rows of Of.
func TestOfExamples(t *testing.T) {
	want := empty()
	if f, e := Of(pixie.Start(), fetches(3668)); e != api.OK || !sameFrames(f, []api.Frame{want}) {
		t.Errorf("Of 3668 records: %v, %d", brief(f), e)
	}
	if f, e := Of(pixie.Start(), fetches(3667)); e != api.OK || len(f) != 0 {
		t.Errorf("Of 3667 records: %v, %d", brief(f), e)
	}
	want.From = 1
	if f, e := Of(api.Raster{Line: 261, Cycle: 13}, fetches(3669)); e != api.OK || !sameFrames(f, []api.Frame{want}) {
		t.Errorf("Of line 261, cycle 13, and 3669 records: %v, %d", brief(f), e)
	}
	if f, e := Of(api.Raster{Line: 80, Cycle: 14}, fetches(3668)); e != api.ErrPixieState || f != nil {
		t.Errorf("Of line 80, cycle 14: %v, %d", brief(f), e)
	}
}

// P10.2, P10.4: the chapter's rows of Show and Page.
func TestShowAndPageExamples(t *testing.T) {
	f := empty()
	f.Rows[0] = []byte{0x81}
	if s, e := Show(f); e != api.OK || s != "#......#\n"+strings.Repeat("\n", 127) {
		t.Errorf("Show of the one byte 81: %q, %d", s, e)
	}
	if p, is := Page(f); p != nil || is {
		t.Errorf("Page of a short frame: %x, %v", p, is)
	}
}
