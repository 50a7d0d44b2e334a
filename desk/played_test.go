package desk

import (
	"bytes"
	"fmt"
	"reflect"
	"strings"
	"testing"

	"vesper/api"
	"vesper/board"
	"vesper/inter"
	"vesper/rom"
	"vesper/snap"
	"vesper/view"
	"vesper/vip"
)

// machineOf is the machine of a state.
func machineOf(t *testing.T, s api.Board) *vip.VIP {
	t.Helper()
	kept, e := snap.Save(s)
	if e != api.OK {
		t.Fatal(e)
	}
	v, e := vip.Load(kept)
	if e != api.OK {
		t.Fatal(e)
	}
	return v
}

// looking is a machine without monitor that looks at each of the lines: it stores what INP 3 reads, and branches by the flags.
const looking = `source
 at 8000
 OUT 4
 data 00
 at 0000
 OUT 4
 data 00
 LDI 00
 PHI 2
 LDI 70
 PLO 2
 LDI 20
 PLO 1
 LDI 00
 PHI 1
 PHI 4
 LDI 71
 PLO 4
again:
 SEX 2
 INP 3
 SEX 4
 OUT 2
 DEC 4
 B2 to tape
back:
 B3 to back
 B4 to flag
 BR to again
tape:
 SEQ
 BR to back
flag:
 REQ
 BR to again
 at 0071
 data 0b
end
bare 2048
`

// The line play: vip.Play of that one span, in all its words; and how many cycles there were since the machine was made.
func TestPlay(t *testing.T) {
	t.Parallel()
	for _, text := range []string{looking, spinning, "machine 2048\n", looking + "play 61\n"} {
		for span, s := range map[string]api.Span{
			"1":              {Cycles: 1},
			"200":            {Cycles: 200},
			"200 tape":       {Cycles: 200, Tape: true},
			"200 flag":       {Cycles: 200, Flag: true},
			"200 keys 0800":  {Cycles: 200, Keys: 0x800},
			"200 bus 5b":     {Cycles: 200, Bus: 0x5b},
			"200 in bus 5b":  {Cycles: 200, DMAIn: true, Bus: 0x5b},
			"200 out":        {Cycles: 200, DMAOut: true},
			"200 int":        {Cycles: 200, Interrupt: true},
			"200 clear":      {Cycles: 200, Clear: true},
			"200 wait":       {Cycles: 200, Wait: true},
			"200 clear wait": {Cycles: 200, Clear: true, Wait: true},
			"9000 keys ffff tape flag in out int bus ff": {Cycles: 9000, Keys: 0xffff, Tape: true, Flag: true, DMAIn: true, DMAOut: true, Interrupt: true, Bus: 0xff},
		} {
			ahead := after(t, text)
			v := machineOf(t, ahead.state)
			film, e := v.Play([]api.Span{s})
			if e != api.OK {
				t.Fatal(e)
			}
			line := "play " + span
			lastTells(t, text, line, fmt.Sprintf("cycles %d\n", ahead.state.Cycles+uint64(s.Cycles)))
			wantBoard(t, text+line+"\n", v.State())
			if got := after(t, text+line+"\n").film; !reflect.DeepEqual(got, film) {
				t.Fatalf("%q: another film: %d records, %d frames, %d beeps", line, len(got.Records), len(got.Frames), len(got.Beeps))
			}
			asTwin(t, text+line+"\ncpu\nraster\nmemory 0070 16\ntrace 30\nframes\nbeeps\n")
		}
	}
}

// The line play: spans of as many cycles as may be, one behind the other.
func TestLongPlay(t *testing.T) {
	t.Parallel()
	tells(t, "bare 2048\nplay 1048576\nplay 1048576\nplay 1\nraster\nframes\ntrace 2\n", `> bare 2048
ok
> play 1048576
cycles 1048576
> play 1048576
cycles 2097152
> play 1
cycles 2097153
> raster
line 194 cycle 9 on 0 got 0
> frames
frames 0
> trace 2
  s1 0001 00 r
`)
}

// The line press: the key is down for so many cycles, then none is for so many; the film is of both.
func TestPress(t *testing.T) {
	t.Parallel()
	for key := range 16 {
		for _, text := range []string{"machine 4096\nplay 3000 keys 1000\n", strings.Replace(looking, "data 0b", fmt.Sprintf("data %02x", key), 1) + "play 50\n"} {
			line := fmt.Sprintf("press %d 3000 2000", key)
			apart := fmt.Sprintf("play 3000 keys %04x\nplay 2000", 1<<key)
			one, two := after(t, text+line+"\n"), after(t, text+apart+"\n")
			if !reflect.DeepEqual(one.state, two.state) {
				t.Fatalf("%q: not as by %q", line, apart)
			}
			lastTells(t, text, line, fmt.Sprintf("cycles %d\n", one.state.Cycles))
			v := machineOf(t, after(t, text).state)
			film, e := v.Play([]api.Span{{Cycles: 3000, Keys: uint16(1 << key)}, {Cycles: 2000}})
			if e != api.OK || len(film.Records) != 5000 || !reflect.DeepEqual(one.film, film) {
				t.Fatalf("%q: another film: %d", line, len(one.film.Records))
			}
			asTwin(t, text+line+"\ncpu\nframes\nbeeps\ntrace 100\nmemory 0060 32\n")
			if other := after(t, text+fmt.Sprintf("press %d 3000 2000\n", (key+1)%16)); strings.HasPrefix(text, "source") && reflect.DeepEqual(other.state, one.state) {
				t.Fatalf("%q: the next key does as much", line)
			}
		}
	}
	lastTells(t, "bare 2048\n", "press 0 1048576 1", "cycles 1048577\n")
	lastTells(t, "bare 2048\n", "press 0 1 1048576", "cycles 1048577\n")
	lastTells(t, "bare 2048\npress 0 2000 2000\n", "frames", "frames 1 short\n")
	lastTells(t, "bare 2048\nplay 2000 keys 0001\nplay 2000\n", "frames", "frames 0\n")
}

// everySign is a machine without monitor that comes to have something else than 0 in all that cpu tells.
const everySign = `source
 at 8000
 OUT 4
 data 00
 at 0002
 LDI 0c
 PLO 3
 LDI 7e
 PHI a
 LDI 81
 PLO a
 SEP 3
 at 000c
 SEX 5
 LDI 40
 PLO 2
 SEQ
 MARK
 LDI 9c
 ADI 6f
 SEX 7
 LDI 20
 PLO 7
 DIS
 at 0020
 data a4
end
bare 2048
`

// The line cpu: each of what the processor has, in its order and its digits.
func TestCPU(t *testing.T) {
	lastTells(t, "bare 2048\n", "cpu", "p 0 x 0 d 00 df 0 t 00 ie 1 q 0 op 00 phase 5 "+strings.TrimSpace(strings.Repeat("0000 ", 16))+"\n")
	// 9c and 6f are 0b and a carry; MARK has put X, P into T; DIS has taken a4 from 0020 as X, P.
	lastTells(t, everySign+"play 39\n", "cpu", "p 4 x a d 20 df 1 t 53 ie 0 q 1 op 71 phase 1 "+
		"000c 0000 003f 001b 0000 0000 0000 0021 0000 0000 7e81 0000 0000 0000 0000 0000\n")
	lastTells(t, "bare 2048\nplay 2\n", "cpu", "p 0 x 0 d 00 df 0 t 00 ie 1 q 0 op 00 phase 2 0001 "+strings.TrimSpace(strings.Repeat("0000 ", 15))+"\n")
}

// The line cpu: each of the phases.
func TestPhases(t *testing.T) {
	long := block(" LBR 0000\n at 8000\n LBR 0000\n") + "bare 2048\n"
	for phase, text := range map[int]string{
		1: spinning + "play 1\n",
		2: spinning + "play 2\n",
		3: long + "play 3\n",
		4: "bare 2048\nplay 3\n",
		5: "bare 2048\n",
		6: "bare 2048\nplay 3 in\n",
		7: "bare 2048\nplay 3 out\n",
		8: "bare 2048\nplay 3 int\n",
	} {
		if got := lastTold(t, text, "cpu"); !strings.Contains(got, fmt.Sprintf(" phase %d ", phase)) {
			t.Errorf("phase %d: %s", phase, got)
		}
		asTwin(t, text+"cpu\n")
	}
}

// The line raster: where the video chip stands, decimal.
func TestRaster(t *testing.T) {
	for _, c := range []struct {
		cycles int
		want   string
	}{{1, "line 0 cycle 1 on 0 got 0"}, {13, "line 0 cycle 13 on 0 got 0"}, {14, "line 1 cycle 0 on 0 got 0"}, {3667, "line 261 cycle 13 on 0 got 0"}, {3668, "line 0 cycle 0 on 0 got 0"}, {14 * 262 * 3, "line 0 cycle 0 on 0 got 0"}} {
		lastTells(t, "bare 2048\n"+fmt.Sprintf("play %d\n", c.cycles), "raster", c.want+"\n")
	}
	for n := range 30 {
		asTwin(t, spinning+fmt.Sprintf("play %d\nraster\n", 14*100+n))
	}
	lastTells(t, spinning+"play 1200\n", "raster", "line 85 cycle 10 on 1 got 7\n")
}

// The lines memory and poke: RAM's bytes at its end and beyond it, for each size; nothing else is told, or written.
func TestMemoryAndPokeAtTheEnd(t *testing.T) {
	for _, size := range []int{2048, 4096, 6144, 30720, 32768} {
		make := fmt.Sprintf("bare %d\n", size)
		all := strings.Repeat("5a", 256)
		for from := size - 258; from <= size+2; from++ {
			if from > size-250 && from < size-3 {
				continue
			}
			there := max(0, min(256, size-from))
			text := make + fmt.Sprintf("poke %04x %s\n", from, all)
			want := strings.Repeat("5a", there) + "\n"
			if there == 0 {
				want = "none\n"
			}
			lastTells(t, make, fmt.Sprintf("poke %04x %s", from, all), "ok\n")
			lastTells(t, text, fmt.Sprintf("memory %04x 256", from), want)
			if there > 0 {
				want = "5a\n"
			}
			lastTells(t, text, fmt.Sprintf("memory %04x 1", from), want)
			lastTells(t, text, fmt.Sprintf("memory %04x 4", size-262), "00000000\n")
			s := after(t, make).state
			for k := from; k < min(from+256, size); k++ {
				s.RAM[k] = 0x5a
			}
			wantBoard(t, text, s)
		}
		lastTells(t, make, "memory ffff 256", "none\n")
		lastTells(t, make, "memory 8000 1", "none\n")
		lastTells(t, make+"poke 8000 "+all+"\npoke ffff "+all+"\n", "memory 0000 256", strings.Repeat("00", 256)+"\n")
		wantBoard(t, make+"poke 8000 "+all+"\npoke ffff "+all+"\n", after(t, make).state)
	}
}

// The lines memory and poke: any bytes, of any number, anywhere; nothing else of the machine is another one, and the film stays.
func TestMemoryAndPoke(t *testing.T) {
	t.Parallel()
	d := uint64(77)
	for _, text := range []string{spunFilm, "machine 4096\nplay 5000\n", looking + "play 33 in bus 11\n"} {
		was := after(t, text)
		for range 60 {
			s := was.state
			s.RAM = bytes.Clone(s.RAM)
			at, n := draw(&d, len(s.RAM)+300), 1+draw(&d, 256)
			b := make([]byte, n)
			for k := range b {
				b[k] = byte(draw(&d, 256))
			}
			if at < len(s.RAM) {
				copy(s.RAM[at:], b)
			}
			line := fmt.Sprintf("poke %04x %x", at, b)
			lastTells(t, text, line, "ok\n")
			is := after(t, text+line+"\n")
			if !reflect.DeepEqual(is.state, s) || !reflect.DeepEqual(is.film, was.film) || !reflect.DeepEqual(is.object, was.object) || !reflect.DeepEqual(is.kept, was.kept) {
				t.Fatalf("%s: something else is another one", brief(line))
			}
			from, many := draw(&d, len(s.RAM)), 1+draw(&d, 256)
			lastTells(t, text+line+"\n", fmt.Sprintf("memory %04x %d", from, many), fmt.Sprintf("%x\n", s.RAM[from:min(from+many, len(s.RAM))]))
		}
	}
}

// atLoop is a game that has come to its fetch loop.
func atLoop(inner string) string { return plays(inner) + "beat\nsave loop\n" }

// The line beat: at the fetch loop the machine stays where it is; the game that it stands for is told.
func TestBeatAtTheLoop(t *testing.T) {
	t.Parallel()
	for _, inner := range []string{"set v0 05\nstay:\njump to stay\n", "key v0\n", "data ff ff\n", "up:\ndata 00 00\n"} {
		text := atLoop(inner)
		if got := lastTold(t, text, "beat"); !strings.HasPrefix(got, "pc 0") {
			t.Fatal(got)
		}
		lastTells(t, text+"beat\n", "same loop", "same\n")
		lastTells(t, text, "beat", lastTold(t, text+"beat\nbeat\n", "beat"))
		g, is := view.Game(after(t, text).state)
		if !is {
			t.Fatal("not at the fetch loop")
		}
		if got, want := lastTold(t, text, "beat"), fmt.Sprintf("pc %04x i %04x ", g.PC, g.I); !strings.HasPrefix(got, want) {
			t.Fatal(got, want)
		}
	}
}

// The line beat: away from the fetch loop the machine is played on to the next return to it, nothing being down or asked for.
func TestBeatFromAway(t *testing.T) {
	t.Parallel()
	text := atLoop("up:\nadd v0 01\nsound v0\ntimer v1\non v1\njump to up\n")
	stands := after(t, text).state
	b, e := board.From(stands)
	if e != api.OK {
		t.Fatal(e)
	}
	for n := 1; n <= 700; n++ {
		b.Step(api.Span{Keys: 0xffff})
		if n%41 != 0 && n > 10 {
			continue
		}
		on := b.Clone()
		var g api.Game
		for is := false; ; on.Step(api.Span{}) {
			if g, is = view.Game(on.State()); is {
				break
			}
		}
		away := text + fmt.Sprintf("play %d keys ffff\n", n)
		if got, want := lastTold(t, away, "beat"), fmt.Sprintf("pc %04x i %04x delay %02x sound %02x depth %d ", g.PC, g.I, g.Delay, g.Sound, len(g.Stack)); !strings.HasPrefix(got, want) || !strings.HasSuffix(got, fmt.Sprintf(" v %x\n", g.V)) {
			t.Fatalf("behind %d cycles: %s; want %s", n, got, want)
		}
		wantBoard(t, away+"beat\n", on.State())
		if film := after(t, away+"beat\n").film; !reflect.DeepEqual(film, after(t, away).film) {
			t.Fatal("the film is another one")
		}
	}
}

// The line beat: all that a game has.
func TestBeatTells(t *testing.T) {
	t.Parallel()
	deep := ""
	for k := range 12 {
		deep += fmt.Sprintf("call %03x\n", 0x202+2*k)
	}
	for _, c := range []struct{ inner, on, want string }{
		{"", "", "pc 0200 i 0000 delay 00 sound 00 depth 0 next machine 000 v 00000000000000000000000000000000\n"},
		{"machine 0e1\n", "", "pc 0200 i 0000 delay 00 sound 00 depth 0 next machine 0e1 v 00000000000000000000000000000000\n"},
		{"data ff ff\n", "", "pc 0200 i 0000 delay 00 sound 00 depth 0 next - v 00000000000000000000000000000000\n"},
		{"draw va vb c\n", "", "pc 0200 i 0000 delay 00 sound 00 depth 0 next draw va vb c v 00000000000000000000000000000000\n"},
		{"set vf 9a\nset ve 01\npoint fed\nkey v0\n", "play 9000\nbeat\n", "pc 0206 i 0fed delay 00 sound 00 depth 0 next key v0 v 0000000000000000000000000000019a\n"},
		{"set v3 a7\nkey v0\n", "play 9000\nbeat\n", "pc 0202 i 0000 delay 00 sound 00 depth 0 next key v0 v 000000a7000000000000000000000000\n"},
		{deep + "key v0\n", "play 9000\nbeat\n", "pc 0218 i 0000 delay 00 sound 00 depth 12 next key v0 v 00000000000000000000000000000000\n"},
		{"jump fff\n", "play 400\nbeat\n", "pc 0fff i 0000 delay 00 sound 00 depth 0 next - v 00000000000000000000000000000000\n"},
	} {
		text := plays(c.inner) + "beat\n"
		if c.on == "" {
			lastTells(t, plays(c.inner), "beat", c.want)
			continue
		}
		// Where an order is not done any more the machine stays; so the beat ahead of it is looked for from the first one on.
		found := false
		for range 60 {
			got := lastTold(t, text, "beat")
			if found = got == c.want; found {
				break
			}
			if got == "away\n" {
				t.Fatalf("%q: away", c.inner)
			}
			text += "play 1\nbeat\n"
		}
		if !found {
			t.Fatalf("%q: %s never is told, at last %s", c.inner, c.want, lastTold(t, text, "beat"))
		}
	}
	ticking := plays("set v1 c8\nset v2 64\ndelay v1\nsound v2\nstay:\njump to stay\n") + "play 60000\n"
	got := after(t, ticking+"beat\n").state.CPU.R[8]
	if got>>8 == 0 || got&0xff == 0 || got>>8 == got&0xff {
		t.Fatalf("%04x", got)
	}
	lastTells(t, ticking, "beat", fmt.Sprintf("pc 0208 i 0000 delay %02x sound %02x depth 0 next jump 208 v 00c86400000000000000000000000000\n", got>>8, got&0xff))
}

// The line beat: a machine that does not come to a fetch loop is played on for 20000 cycles, and away is told; the film stays.
func TestAway(t *testing.T) {
	t.Parallel()
	for _, text := range []string{
		"bare 2048\n", "bare 32768\n", "machine 2048\n", "machine 32768\nplay 3\n", "machine 4096\nplay 3000 keys 1000\n",
		spunFilm, looking + "play 7 keys 0800\n", plays("key v0\n") + "play 30000\nplay 100\n", plays("") + "play 30000\n",
		"machine 4096\nplay 9 clear\n", plays("stay:\njump to stay\n") + "poke 0000 00\n",
	} {
		v := machineOf(t, after(t, text).state)
		if _, e := v.Play([]api.Span{{Cycles: 20000}}); e != api.OK {
			t.Fatal(e)
		}
		lastTells(t, text, "beat", "away\n")
		wantBoard(t, text+"beat\n", v.State())
		if was, is := after(t, text), after(t, text+"beat\n"); !reflect.DeepEqual(was.film, is.film) {
			t.Fatal(text, ": the film is another one")
		}
	}
}

// late is a game whose interpreter begins so late that the first beat lies more than 20000 cycles behind power on; and how many cycles it lies there. Its first bytes are a jump to what counts down, and puts them right again.
func late(t *testing.T) (string, int) {
	t.Helper()
	first := inter.Bytes()[:3]
	wait := []byte{0xf8, 0x12, 0xb7, 0xf8, 0x34, 0xa7, 0x27, 0x87, 0x3a, 0x06, 0x97, 0x3a, 0x06} // R7 from 1234 down to 0
	wait = append(wait, 0xf8, 0x00, 0xb6, 0xa6)                                                  // R6 is 0
	for _, b := range first {
		wait = append(wait, 0xf8, b, 0x56, 0x16)
	}
	wait = append(wait, 0xc0, 0x00, 0x00)
	c, e := vip.Game([]byte{0x60, 0x77, 0x12, 0x02})
	if e != api.OK {
		t.Fatal(e)
	}
	copy(c.Image, []byte{0xc0, 0x0c, 0x00})
	image := make([]byte, 4096)
	copy(image, c.Image)
	copy(image[0xc00:], wait)
	b, e := board.New(4096, rom.Bytes(), image)
	if e != api.OK {
		t.Fatal(e)
	}
	for n := range 60000 {
		if _, is := view.Game(b.State()); is {
			return plays("set v0 77\nstay:\njump to stay\n") + fmt.Sprintf("poke 0000 c00c00\npoke 0c00 %x\n", wait), n
		}
		b.Step(api.Span{})
	}
	t.Fatal("no beat")
	return "", 0
}

// The line beat: 20000 cycles on the beat is told, 20001 it is not.
func TestBeatAtTwentyThousand(t *testing.T) {
	t.Parallel()
	text, cycles := late(t)
	if cycles <= 20001 {
		t.Fatal(cycles)
	}
	const first = "pc 0200 i 0000 delay 00 sound 00 depth 0 next set v0 77 v 00000000000000000000000000000000\n"
	for _, n := range []int{19000, 19999, 20000, 20001, 20002, 21000} {
		at := text + fmt.Sprintf("play %d\n", cycles-n)
		if n <= 20000 {
			lastTells(t, at, "beat", first)
			lastTells(t, at+"beat\n", "play 1", fmt.Sprintf("cycles %d\n", cycles+1))
			continue
		}
		lastTells(t, at, "beat", "away\n")
		lastTells(t, at+"beat\n", "play 1", fmt.Sprintf("cycles %d\n", cycles-n+20001))
		lastTells(t, at+"beat\n", "beat", first)
	}
	lastTells(t, text+fmt.Sprintf("play %d\n", cycles), "beat", first)
	if got := lastTold(t, text+fmt.Sprintf("play %d\n", cycles+1), "beat"); !strings.HasPrefix(got, "pc 0202 ") {
		t.Fatal(got)
	}
}
