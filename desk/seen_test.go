package desk

import (
	"fmt"
	"strings"
	"testing"

	"vesper/api"
	"vesper/frame"
	"vesper/sprite"
	"vesper/trace"
)

// showing is chapter 22's machine: it makes Q high, switches the chip on, and stays; what is shown goes on by 1024 bytes a frame.
const showing = `source
 data 64 00 e1 7b f8 09 a3 d3 00 69 30 0a
 at 8000
 data 64 00 e1 7b f8 09 a3 d3 00 69 30 0a
end
bare 2048
`

// The lines of the film: chapter 22's example, told.
func TestFilmOfTheExample(t *testing.T) {
	tells(t, showing+`play 9
trace 3
beeps
frames
screen
play 7336
trace 1
beeps
frames
raster
`, `> source
object 2 0
> bare 2048
ok
> play 9
cycles 9
> trace 3
  s1 0004 00 q
  s0 0004 f8 r q
  s1 0005 09 r q
> beeps
beeps 1 6-9
> frames
frames 0
> screen
none
> play 7336
cycles 7345
> trace 1
  s1 000b 0a r q
> beeps
beeps 1 0-7336
> frames
frames 1 whole
> raster
line 0 cycle 9 on 1 got 0
`)
}

// The line trace: the last so many records of the last play, all of them, if it has fewer.
func TestTrace(t *testing.T) {
	t.Parallel()
	text := spinning + "play 500\nplay 40 bus 12\n"
	v := machineOf(t, after(t, spinning+"play 500\n").state)
	film, e := v.Play([]api.Span{{Cycles: 40, Bus: 0x12}})
	if e != api.OK {
		t.Fatal(e)
	}
	for _, n := range []int{0, 1, 2, 3, 20, 39, 40, 41, 80, 540, 541, 65536, 9999999} {
		whole, e := trace.Print(film.Records[40-min(n, 40):])
		if e != api.OK {
			t.Fatal(e)
		}
		want := ""
		for _, l := range strings.SplitAfter(whole, "\n") {
			if l != "" {
				want += "  " + l
			}
		}
		lastTells(t, text, fmt.Sprint("trace ", n), want)
		asTwin(t, text+fmt.Sprint("trace ", n, "\ntrace ", n, "\n"))
	}
	lastTells(t, text+"bare 2048\n", "trace 3", "")
	// Of the last play alone.
	if got := lastTold(t, text+"play 1 clear wait\n", "trace 3"); strings.Count(got, "\n") != 1 || !strings.HasSuffix(got, " load\n") {
		t.Fatal(got)
	}
}

// The line trace: a text of 65536 bytes is told; a longer one is error 2, whatever the number of records that are there.
func TestLongTrace(t *testing.T) {
	t.Parallel()
	text := looking + "play 9000\n"
	records := after(t, text).film.Records
	sizes := []int{0} // by how many records
	for k := range records {
		l, e := trace.Print(records[len(records)-1-k:][:1])
		if e != api.OK {
			t.Fatal(e)
		}
		sizes = append(sizes, sizes[k]+len(l))
	}
	most := 0
	for sizes[most+1] <= 65536 {
		most++
	}
	for n := most - 2; n <= most+2; n++ {
		got := lastTold(t, text, fmt.Sprint("trace ", n))
		if n > most {
			if got != "error 2\n" {
				t.Fatalf("%d records: %s", n, brief(got))
			}
		} else if len(got) != sizes[n]+2*n || !strings.HasSuffix(got, lastTold(t, text, "trace 5")) {
			t.Fatalf("%d records: %s", n, brief(got))
		}
	}
	for _, n := range []int{8999, 9000, 9001, 9999999} {
		lastTells(t, text, fmt.Sprint("trace ", n), "error 2\n")
	}
	lastTells(t, text+"trace 9000\n", "trace 0", "")
}

// The line frames: how many, and of each whether it is whole, in their order.
func TestFrames(t *testing.T) {
	t.Parallel()
	const whole = 3668
	for _, c := range []struct {
		text string
		want string
	}{
		{"bare 2048\nplay 3667\n", "frames 0"},
		{"bare 2048\nplay 3668\n", "frames 1 short"},
		{"bare 2048\nplay 7335\n", "frames 1 short"},
		{"bare 2048\nplay 7336\n", "frames 2 short short"},
		{"bare 2048\nplay 1\nplay 7336\n", "frames 1 short"},
		{showing + "play 3668\n", "frames 1 whole"},
		{showing + "play 11004\n", "frames 3 whole whole whole"},
		{showing + "play 3668\nplay 100\nplay 11004 clear\n", "frames 2 short short"},
		{showing + "play 11004\nplay 3667\n", "frames 0"},
	} {
		lastTells(t, c.text, "frames", c.want+"\n")
		asTwin(t, c.text+"frames\nscreen\nbeeps\n")
	}
	// A chip that is switched on in the midst of the first frame: short, then whole ones.
	late := plays("stay:\njump to stay\n")
	for n := range 8 {
		text := late + fmt.Sprintf("play %d\n", (n+1)*whole)
		f := after(t, text).film.Frames
		want := fmt.Sprint("frames ", n+1)
		for _, one := range f {
			if one.Short {
				want += " short"
			} else {
				want += " whole"
			}
		}
		lastTells(t, text, "frames", want+"\n")
		if n == 7 && !strings.HasSuffix(want, "short whole whole") && !strings.HasSuffix(want, "whole whole whole") {
			t.Fatal(want)
		}
		if !strings.HasPrefix(want+" ", fmt.Sprint("frames ", n+1, " short ")) {
			t.Fatal(want)
		}
	}
}

// The line screen: the page of the last frame of the film; none, if there is no frame; torn, if it has no page.
func TestScreen(t *testing.T) {
	t.Parallel()
	none, torn := "none\n", "torn\n"
	for _, c := range []struct{ text, want string }{
		{"", none},
		{"bare 2048\n", none},
		{"bare 2048\nplay 3667\n", none},
		{"bare 2048\nplay 3668\n", torn}, // short, and empty
		{showing + "play 3668\n", torn},  // whole, but of 1024 bytes in a row
		{showing + "play 7336\n", torn},  // whole, but its last row lies beyond RAM
		{strings.Replace(showing, "2048", "4096", 1) + "play 7336\n", rows(32, "")},
		{showing + "play 11004\n", rows(32, strings.Repeat("#", 64))}, // where there is no RAM
		{showing + "play 11004\nplay 3667\n", none},
		{showing + "play 7336\nplay 3668\n", rows(32, strings.Repeat("#", 64))},
		{showing + "play 7336\nplay 3668 clear\n", torn},
		{showing + "play 7336\nbare 2048\n", none},
	} {
		lastTells(t, c.text, "screen", c.want)
		asTwin(t, c.text+"screen\n")
	}
	// A page with dots, of a game: as sprite shows it.
	text := plays("set v0 0a\ndigit v0\nset v1 3e\nset v2 1e\ndraw v1 v2 5\ndraw v3 v4 5\nstay:\njump to stay\n") + "play 90000\n"
	f := after(t, text).film.Frames
	page, is := frame.Page(f[len(f)-1])
	if !is || page[0] != 0xf0 || page[255] != 0x02 {
		t.Fatalf("%v, %x", is, page)
	}
	shown, e := sprite.Show(page)
	if e != api.OK {
		t.Fatal(e)
	}
	want := ""
	for k := range 32 {
		want += "  " + shown[65*k:65*k+65]
	}
	lastTells(t, text, "screen", want)
}

// The line beeps: how many, and from which record up to which.
func TestBeeps(t *testing.T) {
	const beeping = `source
 at 8000
 OUT 4
 data 00
 at 0002
loop:
 SEQ
 NOP
 REQ
 BR to loop
end
bare 2048
`
	// 3 cycles from power on to the OUT's own end; SEQ has 2, NOP 3, REQ 2, BR 2: Q goes high with the second cycle of SEQ, low with that of REQ.
	for n, want := range map[int]string{
		1: "beeps 0", 4: "beeps 0", 5: "beeps 1 4-5", 6: "beeps 1 4-6", 9: "beeps 1 4-9", 10: "beeps 1 4-9", 13: "beeps 1 4-9", 14: "beeps 2 4-9 13-14", 31: "beeps 3 4-9 13-18 22-27", 32: "beeps 4 4-9 13-18 22-27 31-32",
	} {
		lastTells(t, beeping+fmt.Sprintf("play %d\n", n), "beeps", want+"\n")
	}
	lastTells(t, beeping+"play 5\nplay 10\n", "beeps", "beeps 2 0-4 8-10\n")
	lastTells(t, beeping+"play 20\nplay 3 clear\n", "beeps", "beeps 0\n")
	lastTells(t, beeping+"play 20\npress 0 9 9\n", "beeps", "beeps 2 2-7 11-16\n")
}
