package desk

import (
	"bytes"
	"fmt"
	"reflect"
	"runtime"
	"strings"
	"sync"
	"testing"
	"time"

	"vesper/api"
)

// programs are lines within game, of all kinds.
func programs() []string {
	return []string{
		"", "clear\n", "key v3\nstay:\njump to stay\n",
		"set v0 05\nup:\nadd v0 01\nskip-is v0 09\njump to up\nstay:\njump to stay\n",
		"set v0 07\nset v1 04\nset v2 08\ndigit v0\ndraw v1 v2 5\nstay:\njump to stay\n",
		"up:\nadd v0 03\ndelay v0\ntimer v1\nsound v0\npoint 300\nstore v1\nrandom v2 ff\non v2\ncall to down\njump to up\ndown:\nkey v4\nreturn\n",
		"set v0 05\nup:\nskip-up v0\nadd v1 01\njump to up\n",
		"sing\n", "jump to nowhere\n", "a:\na:\n", "data ff ff\n", "machine 300\n",
	}
}

// objects are lines within source, of all kinds.
func objects() []string {
	return []string{
		"", "a:\n", " NOP\n", " at 00fe\n BR to away\naway:\n", "a:\n NOP\na:\n", " LBR to nowhere\n", "NOP\n",
		strings.TrimSuffix(strings.TrimPrefix(spinning, "source\n"), "end\nbare 2048\n"),
		strings.TrimSuffix(strings.TrimPrefix(showing, "source\n"), "end\nbare 2048\n"),
		strings.TrimSuffix(strings.TrimPrefix(looking, "source\n"), "end\nbare 2048\n"),
		" at 8000\n OUT 4\n data 00\n at 0002\nloop:\n SEQ\n REQ\n DIS\n data 00\n MARK\n IDL\n BR to loop\n",
	}
}

// anyCode is a source of any bytes at both beginnings.
func anyCode(d *uint64) string {
	text := ""
	for _, at := range []string{"0000", "0018", "8000"} {
		text += " at " + at + "\n data"
		for range 16 {
			text += fmt.Sprintf(" %02x", draw(d, 256))
		}
		text += "\n"
	}
	return text
}

// anySpan is a span's line, of few cycles.
func anySpan(d *uint64) string {
	text := fmt.Sprint(1 + draw(d, oneOf(d, 20, 300, 9000)))
	if draw(d, 3) == 0 {
		text += fmt.Sprintf(" keys %04x", 1+draw(d, 65535))
	}
	for _, w := range []string{"tape", "flag", "in", "out", "int", "clear", "wait"} {
		if draw(d, 12) == 0 {
			text += " " + w
		}
	}
	if draw(d, 3) == 0 {
		text += fmt.Sprintf(" bus %02x", 1+draw(d, 255))
	}
	return text
}

// anyLine is a line that may be, of any kind; those of source and game with their end.
func anyLine(d *uint64) string {
	name := oneOf(d, "a", "b", "c-1")
	switch draw(d, 20) {
	case 0:
		return block(oneOf(d, objects()...)) + "bare " + oneOf(d, "2048", "2048", "4096", "1")
	case 1:
		return block(anyCode(d)) + "bare " + oneOf(d, "2048", "6144")
	case 2:
		return plays(oneOf(d, programs()...)) + "list"
	case 3:
		return oneOf(d, "machine 2048", "machine 4096", "machine 4097", "machine 0", "#", "", "# end")
	case 4, 5, 6, 7:
		return "play " + anySpan(d)
	case 8:
		return fmt.Sprintf("press %d %d %d", draw(d, 16), draw(d, 500), draw(d, 500))
	case 9:
		return "cpu\nraster"
	case 10:
		return fmt.Sprintf("memory %04x %d", draw(d, oneOf(d, 64, 2100, 65536)), 1+draw(d, 256))
	case 11:
		return fmt.Sprintf("poke %04x %04x%02x", draw(d, oneOf(d, 64, 2100, 65536)), draw(d, 65536), draw(d, 256))
	case 12:
		return fmt.Sprint("trace ", draw(d, oneOf(d, 5, 30, 9000)))
	case 13:
		return "frames\nbeeps"
	case 14:
		return "screen"
	case 15:
		return oneOf(d, "beat", "list", "list")
	case 16:
		return "save " + name
	case 17, 18:
		return "load " + name
	}
	return "same " + name
}

// anyText is a text that may be.
func anyText(d *uint64, lines int) string {
	text := oneOf(d, "", "machine 2048\n", spinning, plays(oneOf(d, programs()[1:6]...))+"play 9000\n")
	for range lines {
		text += anyLine(d) + "\n"
	}
	return text
}

// P24.1: texts of lines of all kinds, in any order, tell what the chapter's words say, line by line.
func TestTexts(t *testing.T) {
	abreast(t, 40, func(t *testing.T, n int) {
		d := uint64(n)
		for range 4 {
			text := anyText(&d, 30)
			asTwin(t, text)
			told(t, text)
		}
	})
}

// P24.1: and with a line that may not be among them nothing is told.
func TestTextsWithAWrongLine(t *testing.T) {
	t.Parallel()
	d := uint64(5)
	for range 300 {
		l := strings.Split(anyText(&d, 10), "\n")
		at := draw(&d, len(l))
		if draw(&d, 2) == 0 {
			l[at] += oneOf(&d, " ", " 0", "x", "\t")
		} else {
			l = append(l[:at], append([]string{oneOf(&d, "end", "source", "game", "sing", "cpu 1", "play", "")}, l[at:]...)...)
		}
		if draw(&d, 5) == 0 {
			l = l[:at+1]
		}
		text := strings.Join(l, "\n")
		if _, e, _ := twinRun(text); e != api.OK {
			asTwin(t, text)
		}
	}
}

// P24.1, R1: any bytes; texts of the table's words in any order.
func TestAnyBytes(t *testing.T) {
	t.Parallel()
	d := uint64(6)
	for range 3000 {
		b := make([]byte, draw(&d, 60))
		for k := range b {
			b[k] = oneOf(&d, byte(draw(&d, 256)), '\n', ' ', 'a', '0', '#')
		}
		asTwin(t, string(b))
	}
	words := strings.Fields("source end list machine bare game play press cpu raster memory poke trace frames screen beeps beat save load same 0 1 2048 00 0000 a keys tape wait bus 01 # NOP")
	for range 3000 {
		text := ""
		for range 1 + draw(&d, 12) {
			text += oneOf(&d, words...) + oneOf(&d, " ", "\n", "\n", "\n")
		}
		asTwin(t, text)
	}
}

// beginnings holds what is told of a text's first lines against what is told of all, cut at each line.
func beginnings(t *testing.T, text string) {
	t.Helper()
	all := told(t, text)
	l := strings.SplitAfter(text, "\n")
	last := ""
	for n := range l {
		first := strings.Join(l[:n], "")
		got, e, at := Run(first)
		if e != api.OK {
			if _, wantE, wantAt := twinRun(first); e != wantE || at != wantAt || got != "" || at != n+1 {
				t.Fatalf("of %d lines: %d, %d; want %d, %d", n, e, at, wantE, wantAt)
			}
			continue
		}
		if !strings.HasPrefix(all, got) || !strings.HasPrefix(got, last) {
			t.Fatalf("of %d lines of %s is told\n%s\nof all\n%s", n, brief(text), got, all)
		}
		if rest := all[len(got):]; rest != "" && !strings.HasPrefix(rest, "> ") {
			t.Fatalf("of %d lines is told less than what they tell: then comes %s", n, brief(rest))
		}
		last = got
	}
	if last != all {
		t.Fatalf("of all lines is told %s, then %s", brief(all), brief(last))
	}
}

// P24.2: what is told of a text's first lines is the beginning of what is told of all: DOC.md's examples, and other texts, cut at each line.
func TestFirstLines(t *testing.T) {
	texts := []string{lines("# a", "", "list"), spunFilm + "trace 9\nscreen\nbeeps\nframes\n" + block("a:\na:\n") + plays("sing\n")}
	for _, p := range examples() {
		texts = append(texts, p.text)
	}
	d := uint64(7)
	for range 8 {
		texts = append(texts, anyText(&d, 12))
	}
	abreast(t, len(texts), func(t *testing.T, n int) { beginnings(t, texts[n]) })
}

// P24.2: what is told hangs on the text alone: the same text twice, with another one between, tells the same.
func TestTextAlone(t *testing.T) {
	d := uint64(8)
	ways := examples()
	for range 10 {
		text := anyText(&d, 15)
		ways = append(ways, pair{text, told(t, text)})
	}
	abreast(t, len(ways), func(t *testing.T, n int) {
		p := ways[n]
		for k, other := range ways[:4] {
			tells(t, p.text, p.told)
			tells(t, other.text, other.told)
			refuses(t, other.text+p.text+"sing\n", api.ErrDeskLine, strings.Count(other.text+p.text, "\n")+1)
			if k == 0 {
				// Nothing is kept from one call to the next: no machine, no object, no film, no name.
				tells(t, "cpu\nlist\nframes\nload a\nload here\n", "> cpu\nerror 241\n> list\n> frames\nframes 0\n> load a\nnone\n> load here\nnone\n")
			}
			tells(t, p.text, p.told)
		}
	})
}

// P24.2, R6: texts that are done side by side tell what each tells by itself; all goroutines have ended.
func TestSideBySide(t *testing.T) {
	d := uint64(9)
	ways := examples()
	for range 6 {
		text := anyText(&d, 15)
		ways = append(ways, pair{text, told(t, text)})
	}
	was := runtime.NumGoroutine()
	var all sync.WaitGroup
	for k := range 3 * len(ways) {
		all.Go(func() {
			p := ways[k%len(ways)]
			if got, e, n := Run(p.text); got != p.told || e != api.OK || n != 0 {
				t.Errorf("%s: %d, %d, %s", brief(p.text), e, n, brief(got))
			}
		})
	}
	all.Wait()
	for tries := 0; runtime.NumGoroutine() > was; tries++ {
		if tries == 200 {
			t.Fatal("goroutines are left: ", runtime.NumGoroutine(), " of ", was)
		}
		time.Sleep(10 * time.Millisecond)
	}
}

// R5, R7: what is told stays, whatever becomes of the bytes of which the text was made; lines that are kept share nothing with one another.
func TestSharesNothing(t *testing.T) {
	b := []byte(spunFilm + "list\ntrace 9\nscreen\nframes\nbeeps\nsave x\n")
	text := string(b)
	one := told(t, text)
	two := strings.Clone(one)
	clear(b)
	told(t, spunFilm+"poke 0000 ff\nlist\ntrace 9\n")
	if one != two || told(t, text) != two {
		t.Fatal(brief(one))
	}
	was := after(t, text)
	for name, kept := range was.kept {
		copied := bytes.Clone(kept)
		for other, l := range was.kept {
			if other != name {
				clear(l[:cap(l)])
			}
		}
		if !bytes.Equal(kept, copied) {
			t.Fatal(name, " shares bytes with another one")
		}
		was = after(t, text)
	}
	if !reflect.DeepEqual(was, after(t, text)) {
		t.Fatal("the desk stands otherwise behind the same text")
	}
}
