package desk

import (
	"bytes"
	"fmt"
	"slices"
	"strings"
	"testing"

	"vesper/api"
	"vesper/asm"
	"vesper/rom"
	"vesper/snap"
	"vesper/source"
	"vesper/vip"
)

// block is a text's lines between source and end.
func block(inner string) string { return "source\n" + inner + "end\n" }

// plays is a text's lines between game and end.
func plays(inner string) string { return "game\n" + inner + "end\n" }

// The line source: how many blocks and labels the object has, which is that from now on.
func TestSourceIsTheObject(t *testing.T) {
	for _, p := range []pair{
		{"", "object 0 0\n"},
		{"; nothing\n\n", "object 0 0\n"},
		{"a:\n", "object 0 1\n"},
		{" NOP\n", "object 1 0\n"},
		{"a:\nb:\n NOP\nc:\n at 0005\n NOP\n", "object 2 3\n"},
		{" at 8000\n NOP\n at 7fff\n NOP\n at 0000\n LBR to a\na:\n", "object 2 1\n"},
		{strings.Repeat(" NOP\n at 0000\n at 0001\n at 0002\n", 1), "object 1 0\n"},
	} {
		tells(t, block(p.text), "> source\n"+p.told)
		asTwin(t, block(" NOP\nq:\n")+block(p.text)+"list\n")
	}
	many := ""
	for k := range 300 {
		many += fmt.Sprintf(" at %04x\nl%d:\n NOP\n", 3*k, k)
	}
	tells(t, block(many), "> source\nobject 300 300\n")
}

// The line source: what is told of an object is the layers' own answer to the lines, each with its line feed, those behind the first end not.
func TestSourceIsParsedAndAssembled(t *testing.T) {
	t.Parallel()
	d := uint64(241)
	words := []string{" NOP", " LDI 05", "a:", "b:", " BR to a", " LBR to b", " data 01 02", " at 0003", " at 00ff", " address a", "; remark", "", " at ffff", " sing", "A:", " LDI high b", "\t"}
	for range 500 {
		inner := ""
		for range draw(&d, 6) {
			inner += oneOf(&d, words...) + "\n"
		}
		want := ""
		items, e, at := source.Parse(inner)
		if e == api.OK {
			var o api.Object
			o, e, at = asm.Assemble(items)
			want = fmt.Sprintf("object %d %d\n", len(o.Blocks), len(o.Labels))
		}
		if e != api.OK {
			want = fmt.Sprintf("error %d at %d\n", e, at)
		}
		tells(t, block(inner)+"# NOP\n\n", "> source\n"+want)
		asTwin(t, block(" REQ\nold:\n")+block(inner)+"list\nbare 2048\nplay 20\ntrace 20\n")
	}
}

// The line list: plain.Lines of the object, each line with two blanks ahead; nothing of that of no item.
func TestList(t *testing.T) {
	tells(t, "list\n", "> list\n")
	tells(t, block("")+"list\n", "> source\nobject 0 0\n> list\n")
	tells(t, block("a:\n")+"list\n", "> source\nobject 0 1\n> list\n  a:\n")
	lastTells(t, block(" LBR 1234\n data 00 01 02 03 04 05 06 07 08 09\n at 1234\nz:\n"), "list",
		"  0000  c0 12 34  LBR 1234\n  0003  00 01 02 03 04 05 06 07\n  000b  08 09\n  z:\n")
	lastTells(t, block("a:\n")+block("A:\n"), "list", "  a:\n")
	lastTells(t, block("a:\n")+block("b:\n")+"machine 2048\nplay 5\n", "list", "  b:\n")
}

// The line list: a list of 65536 bytes is told, a longer one is error 2.
func TestLongList(t *testing.T) {
	// 30 bytes of a line of eight; of one of k bytes 3 k + 6; of a label's line its name and two.
	data := strings.Repeat(" data"+strings.Repeat(" 00", 256)+"\n", 68) + " data" + strings.Repeat(" 00", 8*8) + "\n"
	for _, size := range []int{65535, 65536, 65537} {
		name := strings.Repeat("b", size-30*(68*32+8)-len("a:\n:\n"))
		text := block(data + "a:\n" + name + ":\n")
		got := lastTold(t, text, "list")
		if size > 65536 {
			if got != "error 2\n" {
				t.Fatalf("%d bytes: %s", size, brief(got))
			}
			continue
		}
		if n := strings.Count(got, "\n"); len(got) != size+2*n || n != 68*32+10 {
			t.Fatalf("%d bytes: %d of %d lines", size, len(got), n)
		}
	}
}

// The line machine: every size of RAM that may be, the monitor's bytes, no image; all others are error 220.
func TestMachine(t *testing.T) {
	sizes := []int{0, 1, 512, 2047, 2049, 4095, 4097, 32767, 32769, 34816, 65536, 1 << 20, 9999999}
	for n := range 20 {
		sizes = append(sizes, 2048*n)
	}
	for _, n := range sizes {
		line := fmt.Sprint("machine ", n)
		v, e := vip.New(api.Config{RAM: n, ROM: rom.Bytes()})
		if e != api.OK {
			tells(t, line+"\n", "> "+line+"\nerror 220\n")
			continue
		}
		tells(t, line+"\n", "> "+line+"\nok\n")
		wantBoard(t, line+"\n", v.State())
		wantBoard(t, block(" data 01 02 03\n at 8000\n data 04\n")+line+"\n", v.State())
	}
}

// wantBoard: behind that text the machine stands so.
func wantBoard(t *testing.T, text string, want api.Board) {
	t.Helper()
	got := after(t, text)
	if !got.machine {
		t.Fatalf("%s: no machine", brief(text))
	}
	one, e := snap.Save(got.state)
	two, e2 := snap.Save(want)
	if e != api.OK || e2 != api.OK || !bytes.Equal(one, two) {
		t.Fatalf("%s: the machine stands otherwise: %d, %d", brief(text), e, e2)
	}
}

// edges are sources whose objects reach over the edges of RAM and ROM.
func edges() []string {
	return []string{
		"",
		" data 01\n",
		" at 07fe\n data 11 12 13 14\n",
		" at 7ffe\n data 11 12 13 14\n",
		" at 81fe\n data 11 12 13 14\n",
		" at 7fff\n LBR 8181\n",
		" at 81ff\n LBR 8181\n",
		" at fffe\n data 11 12\n",
		" at 2000\n data 11 12\n at 8100\n data 21 22 23\n at 8200\n data 31\n at 0000\n data 41\n",
		" at 07ff\n data 01\n at 0fff\n data 02\n at 17ff\n data 03\n at 7fff\n data 04\n at 8000\n data 05\n at 81ff\n data 06\n at 8200\n data 07\n",
	}
}

// The line bare: the object's bytes up to the size of RAM, 32768 at most, are RAM's; those from 8000 to 81FF are ROM's; 0 where it has none.
func TestBare(t *testing.T) {
	for _, inner := range edges() {
		items, e, _ := source.Parse(inner)
		o, e2, _ := asm.Assemble(items)
		if e != api.OK || e2 != api.OK {
			t.Fatal(inner, e, e2)
		}
		whole := make([]byte, 65536)
		for _, b := range o.Blocks {
			copy(whole[b.At:], b.Bytes)
		}
		for _, n := range []int{0, 1, 2047, 2048, 2049, 4096, 6144, 30720, 32767, 32768, 32769, 34816, 36864, 65536, 9999999} {
			line := fmt.Sprint("bare ", n)
			if n%2048 != 0 || n == 0 || n > 32768 {
				lastTells(t, block(inner), line, "error 220\n")
				continue
			}
			lastTells(t, block(inner), line, "ok\n")
			v, e := vip.New(api.Config{RAM: n, ROM: whole[0x8000:0x8200], Image: whole[:n]})
			if e != api.OK {
				t.Fatal(n, e)
			}
			wantBoard(t, block(inner)+line+"\n", v.State())
			asTwin(t, block(inner)+line+"\nmemory 07f0 32\nmemory 7ff0 32\nmemory 2000 2\nplay 30\ntrace 30\nsave a\n")
		}
	}
}

// The line bare: the object is that of the line; what comes behind it changes nothing of the machine.
func TestBareIsOfItsObject(t *testing.T) {
	text := block(" data 01\n") + "bare 2048\n" + block(" data 02\n")
	lastTells(t, text, "memory 0000 2", "0100\n")
	lastTells(t, text+"bare 2048\n", "memory 0000 2", "0200\n")
	lastTells(t, text+"poke 0000 07\n", "list", "  0000  02\n")
	lastTells(t, text+"poke 0000 07\nbare 4096\n", "memory 0000 2", "0200\n")
	lastTells(t, "bare 2048\n", "memory 0000 2", "0000\n")
}

// The line game: how many bytes the program has; a machine of it, with monitor and interpreter.
func TestGame(t *testing.T) {
	d := uint64(2400)
	for _, n := range []int{0, 1, 2, 100, 3231, 3232} {
		program := make([]byte, n)
		inner := ""
		for k := range program {
			program[k] = byte(draw(&d, 256))
			if k%16 == 0 {
				inner += "\ndata"
			}
			inner += fmt.Sprintf(" %02x", program[k])
		}
		text := plays(strings.TrimPrefix(inner+"\n", "\n"))
		tells(t, text, fmt.Sprintf("> game\ngame %d\n", n))
		c, e := vip.Game(program)
		if e != api.OK {
			t.Fatal(e)
		}
		v, e := vip.New(c)
		if e != api.OK {
			t.Fatal(e)
		}
		wantBoard(t, text, v.State())
	}
	tells(t, plays("data"+strings.Repeat(" 00", 3233)+"\n"), "> game\nerror 2 at 1\n")
	tells(t, plays("; a\n\nkey\n"), "> game\nerror 161 at 3\n")
	tells(t, plays("; a\n\ncall to b\n"), "> game\nerror 160 at 3\n")
	tells(t, plays("up: \n  jump to up ; for good\n"), "> game\ngame 2\n")
}

// emptyFilm is what is told of a film that is empty.
const emptyFilm = "> trace 5\n> frames\nframes 0\n> screen\nnone\n> beeps\nbeeps 0\n"

// filmLines are the lines that tell of the film.
const filmLines = "trace 5\nframes\nscreen\nbeeps\n"

// The section 'Lines': machine, bare, game and load empty the film, where they tell no error; all others but play and press leave it.
func TestWhatEmptiesTheFilm(t *testing.T) {
	t.Parallel()
	full := told(t, spunFilm+filmLines)
	full = strings.TrimPrefix(full, told(t, spunFilm))
	if strings.Contains(full, "frames 0") || strings.Contains(full, "beeps 0") {
		t.Fatal(full)
	}
	behind := func(line, want string) {
		t.Helper()
		text := spunFilm + line + "\n"
		if got := strings.TrimPrefix(told(t, text+filmLines), told(t, text)); got != want {
			t.Fatalf("behind %q is told of the film\n%s\nwant\n%s", line, got, want)
		}
		asTwin(t, text+filmLines)
	}
	for _, line := range []string{"machine 2048", "machine 4096", "bare 2048", "bare 32768", "game\nend", "game\nclear\nend", "load early", "load late"} {
		behind(line, emptyFilm)
	}
	for _, line := range []string{
		"# a", "source\nend", "source\n NOP\nend", "list", "cpu", "raster", "memory 0000 5", "poke 0000 00", "poke ffff 00", "trace 3", "trace 0", "frames", "screen", "beeps", "beat", "beat\nbeat",
		"save early", "save other", "same early", "same none", "load none",
		"machine 1", "bare 1", "game\nsing\nend", "press 1 0 1", "press 1 1 0",
	} {
		behind(line, full)
	}
	for _, line := range []string{"play 1", "press 4 1 1"} {
		if got := told(t, spunFilm+line+"\n"+filmLines); strings.HasSuffix(got, full) || strings.HasSuffix(got, emptyFilm) {
			t.Fatalf("behind %q is told of the film %s", line, brief(got))
		}
	}
}

// The lines save and load: a machine is kept as it is, and comes back as it was; under a name that was kept before, it is another one from now on.
func TestSaveAndLoad(t *testing.T) {
	t.Parallel()
	text := "machine 2048\nsave a\nplay 700\nsave b\nplay 900\nsave c-9\n"
	lastTells(t, text, "save d", "kept 2631\n")
	lastTells(t, text+"machine 32768\n", "save d", "kept 33351\n")
	for _, p := range []pair{{"a", "0"}, {"b", "700"}, {"c-9", "1600"}} {
		for _, ahead := range []string{"", "machine 4096\n", "game\nend\nplay 50\n", "bare 2048\n", "load a\nload b\n"} {
			lastTells(t, text+ahead, "load "+p.text, "ok\n")
			at := text + ahead + "load " + p.text + "\n"
			lastTells(t, at, "same "+p.text, "same\n")
			n := 0
			fmt.Sscan(p.told, &n)
			lastTells(t, at, "play 3", fmt.Sprintf("cycles %d\n", n+3))
			asTwin(t, at+"cpu\nraster\nmemory 07f0 16\nplay 4000\ntrace 30\nsame a\nsame b\nsame c-9\n")
		}
	}
	again := text + "load a\nsave b\n"
	lastTells(t, again, "same a", "same\n")
	lastTells(t, again, "same b", "same\n")
	lastTells(t, again+"load c-9\n", "same b", "other\n")
	lastTells(t, again+"load c-9\nload b\n", "play 1", "cycles 1\n")
}

// The lines load and same of a name that was never kept: none, and nothing changes; other.
func TestNeverKept(t *testing.T) {
	t.Parallel()
	for _, text := range deskTexts() {
		for _, name := range []string{"none", "a1", "abcdefghijklmnop", "z"} {
			tellsError(t, text, pair{"load " + name, "none"})
		}
		if strings.Contains(lastTold(t, text, "cpu"), "phase") {
			tellsError(t, text, pair{"same z", "other"})
		}
	}
}

// The line same: whatever of a machine is another one, it is another machine; what else the desk has is not looked at.
func TestSame(t *testing.T) {
	text := spunFilm + "save x\n"
	for _, line := range []string{"play 1", "poke 0000 ff", "poke 07ff 01", "load early", "bare 2048", "bare 4096", "machine 2048", "game\nend", "press 0 1 1", "beat"} {
		lastTells(t, text+line+"\n", "same x", "other\n")
		lastTells(t, text+line+"\nload x\n", "same x", "same\n")
	}
	for _, line := range []string{"cpu", "source\nend", "save late", "save early", "poke 07ff 00", "poke 0800 01", "poke ffff 01", "load late", "load none", "machine 1", "press 0 1 0", "trace 3"} {
		lastTells(t, text+line+"\n", "same x", "same\n")
	}
	// Made anew, and played as long, it stands as it stood.
	lastTells(t, text+"bare 2048\nplay 9000 bus 12\n", "same x", "same\n")
	lastTells(t, text+"bare 2048\nplay 4500 bus 12\nplay 4500 bus 12\n", "same late", "same\n")
}

// The line save: what is kept is a machine by itself: it stays as it was, whatever comes behind.
func TestKeptStays(t *testing.T) {
	text := "bare 2048\nsave a\npoke 0000 aa\nsave b\npoke 0000 bb\nplay 100\n"
	for _, l := range [][]string{{"a", "00"}, {"b", "aa"}} {
		lastTells(t, text+"load "+l[0]+"\n", "memory 0000 1", l[1]+"\n")
		lastTells(t, text+"load "+l[0]+"\npoke 0000 cc\nplay 100\nload "+l[0]+"\n", "memory 0000 1", l[1]+"\n")
	}
	// As many as a text has room for.
	many, names := "bare 2048\n", []string{}
	for k := range 300 {
		names = append(names, fmt.Sprint("n", k))
		many += fmt.Sprintf("poke 0000 %02x%02x\nsave n%d\n", k/256, k%256, k)
	}
	slices.Reverse(names)
	for k, name := range names[:100] {
		many += "load " + name + "\nmemory 0000 2\n"
		if k%33 == 0 {
			lastTells(t, many, "memory 0000 2", fmt.Sprintf("%04x\n", 299-k))
		}
	}
}
