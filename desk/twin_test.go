package desk

import (
	"fmt"
	"reflect"
	"regexp"
	"strconv"
	"strings"
	"testing"

	"vesper/api"
	"vesper/asm"
	"vesper/board"
	"vesper/frame"
	"vesper/game"
	"vesper/inter"
	"vesper/ops"
	"vesper/plain"
	"vesper/rom"
	"vesper/source"
	"vesper/sprite"
	"vesper/tone"
	"vesper/trace"
	"vesper/view"
)

// grammar is the chapter's table of lines: each in whole. (How many cycles a span has is looked at besides.)
var grammar = regexp.MustCompile(`^(?:` + strings.Join([]string{
	`source`, `list`, `game`, `cpu`, `raster`, `frames`, `screen`, `beeps`, `beat`,
	`(?:machine|bare|trace) ` + decimal,
	`play [1-9][0-9]{0,6}(?: keys [0-9a-f]{4})?(?: tape)?(?: flag)?(?: in)?(?: out)?(?: int)?(?: clear)?(?: wait)?(?: bus [0-9a-f]{2})?`,
	`press (?:[0-9]|1[0-5]) ` + decimal + ` ` + decimal,
	`memory [0-9a-f]{4} (?:[1-9]|[1-9][0-9]|1[0-9][0-9]|2[0-4][0-9]|25[0-6])`,
	`poke [0-9a-f]{4} (?:[0-9a-f][0-9a-f]){1,256}`,
	`(?:save|load|same) [a-z][a-z0-9-]{0,15}`,
}, `|`) + `)$`)

const decimal = `(?:0|[1-9][0-9]{0,6})`

// mayBe: the line may be, by the chapter's words.
func mayBe(line string) bool {
	if !grammar.MatchString(line) || strings.Contains(line+" ", " keys 0000 ") || strings.Contains(line+" ", " bus 00 ") {
		return false
	}
	words := strings.Split(line, " ")
	return words[0] != "play" || number7(words[1]) <= 1048576
}

func number7(word string) int {
	n, err := strconv.Atoi(word)
	if err != nil {
		panic(err)
	}
	return n
}

// twin is a desk that is made by the chapter's words, of the calls of the layers below vip.
type twin struct {
	object  api.Object
	machine *board.Board
	film    api.Film
	kept    map[string]api.Board
}

// twinRun is Run, by the chapter's words.
func twinRun(text string) (string, api.Errno, int) {
	if len(text) > 65536 {
		return "", api.ErrLong, 0
	}
	l := strings.Split(text, "\n")
	if l[len(l)-1] == "" {
		l = l[:len(l)-1]
	}
	within := false
	for k, line := range l {
		if k == 1000 || k == len(l)-1 && !strings.HasSuffix(text, "\n") {
			return "", api.ErrDeskLine, k + 1
		}
		switch {
		case within:
			within = line != "end"
		case line == "", strings.HasPrefix(line, "#"):
		case !mayBe(line):
			return "", api.ErrDeskLine, k + 1
		default:
			within = line == "source" || line == "game"
		}
	}
	if within {
		return "", api.ErrDeskLine, len(l) + 1
	}
	d := &twin{kept: map[string]api.Board{}}
	told := ""
	for len(l) > 0 {
		line := l[0]
		l = l[1:]
		if line == "" || line[0] == '#' {
			continue
		}
		inner := ""
		if line == "source" || line == "game" {
			for l[0] != "end" {
				inner += l[0] + "\n"
				l = l[1:]
			}
			l = l[1:]
		}
		told += "> " + line + "\n" + d.do(strings.Split(line, " "), inner)
	}
	return told, api.OK, 0
}

// do does a line: its words, and the lines within it.
func (d *twin) do(words []string, inner string) string {
	switch words[0] {
	case "source":
		return d.source(inner)
	case "list":
		text, e := plain.Lines(d.object)
		return twoBlanks(text, e)
	case "machine":
		return d.begin("ok", number7(words[1]), rom.Bytes(), nil)
	case "bare":
		n := number7(words[1])
		low, _ := asm.Bytes(d.object, 0, 32768)
		high, _ := asm.Bytes(d.object, 0x8000, 0x8200)
		return d.begin("ok", n, high, low[:min(n, len(low))])
	case "game":
		program, e, at := ops.Program(inner)
		if e != api.OK {
			return fmt.Sprintf("error %d at %d\n", e, at)
		}
		return d.begin(fmt.Sprintf("game %d", len(program)), 4096, rom.Bytes(), append(inter.Bytes(), program...))
	case "load":
		s, is := d.kept[words[1]]
		if !is {
			return "none\n"
		}
		d.machine, _ = board.From(s)
		d.film = api.Film{}
		return "ok\n"
	case "trace", "frames", "screen", "beeps":
		return d.seen(words)
	}
	if d.machine == nil {
		return "error 241\n"
	}
	return d.withMachine(words, d.machine.State())
}

func twoBlanks(text string, e api.Errno) string {
	if e != api.OK {
		return fmt.Sprintf("error %d\n", e)
	}
	return regexp.MustCompile(`(?m)^(.)`).ReplaceAllString(text, "  $1")
}

func (d *twin) source(text string) string {
	items, e, at := source.Parse(text)
	if e != api.OK {
		return fmt.Sprintf("error %d at %d\n", e, at)
	}
	o, e, at := asm.Assemble(items)
	if e != api.OK {
		return fmt.Sprintf("error %d at %d\n", e, at)
	}
	d.object = o
	return fmt.Sprintf("object %d %d\n", len(o.Blocks), len(o.Labels))
}

func (d *twin) begin(text string, ram int, firm, image []byte) string {
	b, e := board.New(ram, firm, image)
	if e != api.OK {
		return "error 220\n"
	}
	d.machine, d.film = b, api.Film{}
	return text + "\n"
}

// seen is what is told of the film.
func (d *twin) seen(words []string) string {
	f := d.film
	text := fmt.Sprint(words[0], " ")
	switch words[0] {
	case "trace":
		for len(f.Records) > number7(words[1]) {
			f.Records = f.Records[1:]
		}
		return twoBlanks(trace.Print(f.Records))
	case "frames":
		text += fmt.Sprint(len(f.Frames))
		for _, one := range f.Frames {
			text += map[bool]string{true: " short", false: " whole"}[one.Short]
		}
	case "beeps":
		text += fmt.Sprint(len(f.Beeps))
		for _, one := range f.Beeps {
			text += fmt.Sprintf(" %d-%d", one.From, one.To)
		}
	case "screen":
		if len(f.Frames) == 0 {
			return "none\n"
		}
		page, is := frame.Page(f.Frames[len(f.Frames)-1])
		if !is {
			return "torn\n"
		}
		return twoBlanks(sprite.Show(page))
	}
	return text + "\n"
}

func bit(is bool) int { return map[bool]int{true: 1}[is] }

// withMachine does a line that wants a machine, which stands so.
func (d *twin) withMachine(words []string, s api.Board) string {
	switch words[0] {
	case "play":
		return d.play(spanOf(words[1:]))
	case "press":
		down, up := number7(words[2]), number7(words[3])
		if min(down, up) < 1 || max(down, up) > 1048576 {
			return "error 70\n"
		}
		return d.play(api.Span{Cycles: down, Keys: uint16(1) << number7(words[1])}, api.Span{Cycles: up})
	case "cpu":
		c := s.CPU
		text := fmt.Sprintf("p %x x %x d %02x df %d t %02x ie %d q %d op %02x phase %d", c.P, c.X, c.D, bit(c.DF), c.T, bit(c.IE), bit(c.Q), c.Op, c.Phase)
		for _, r := range c.R {
			text += fmt.Sprintf(" %04x", r)
		}
		return text + "\n"
	case "raster":
		r := s.Raster
		return fmt.Sprintf("line %d cycle %d on %d got %d\n", r.Line, r.Cycle, bit(r.On), r.Got)
	case "memory", "poke":
		return d.bytes(words, s)
	case "beat":
		return d.beat()
	case "save":
		d.kept[words[1]] = s
		return fmt.Sprintf("kept %d\n", 583+len(s.RAM))
	case "same":
		if kept, is := d.kept[words[1]]; is && reflect.DeepEqual(kept, s) {
			return "same\n"
		}
		return "other\n"
	}
	panic(words[0])
}

func (d *twin) bytes(words []string, s api.Board) string {
	at, err := strconv.ParseUint(words[1], 16, 16)
	if err != nil {
		panic(err)
	}
	if words[0] == "memory" {
		text := ""
		for k := range number7(words[2]) {
			if a := int(at) + k; a < len(s.RAM) {
				text += fmt.Sprintf("%02x", s.RAM[a])
			}
		}
		if text == "" {
			text = "none"
		}
		return text + "\n"
	}
	for k := 0; 2*k < len(words[2]); k++ {
		x, err := strconv.ParseUint(words[2][2*k:2*k+2], 16, 8)
		if err != nil {
			panic(err)
		}
		if a := int(at) + k; a < len(s.RAM) {
			s.RAM[a] = byte(x)
		}
	}
	d.machine, _ = board.From(s)
	return "ok\n"
}

// spanOf is the span of a span's words.
func spanOf(words []string) api.Span {
	s := api.Span{Cycles: number7(words[0])}
	for k, w := range words {
		switch w {
		case "keys":
			n, _ := strconv.ParseUint(words[k+1], 16, 16)
			s.Keys = uint16(n)
		case "bus":
			n, _ := strconv.ParseUint(words[k+1], 16, 8)
			s.Bus = byte(n)
		}
		s.Tape = s.Tape || w == "tape"
		s.Flag = s.Flag || w == "flag"
		s.DMAIn = s.DMAIn || w == "in"
		s.DMAOut = s.DMAOut || w == "out"
		s.Interrupt = s.Interrupt || w == "int"
		s.Clear = s.Clear || w == "clear"
		s.Wait = s.Wait || w == "wait"
	}
	return s
}

func (d *twin) play(l ...api.Span) string {
	from := d.machine.State().Raster
	var f api.Film
	for _, s := range l {
		for range s.Cycles {
			f.Records = append(f.Records, d.machine.Step(s))
		}
	}
	f.Frames, _ = frame.Of(from, f.Records)
	f.Beeps = tone.Beeps(f.Records)
	d.film = f
	return fmt.Sprintf("cycles %d\n", d.machine.State().Cycles)
}

func (d *twin) beat() string {
	for cycles := 0; ; cycles++ {
		g, is := view.Game(d.machine.State())
		if !is && cycles == 20000 {
			return "away\n"
		}
		if !is {
			d.machine.Step(api.Span{Cycles: 1})
			continue
		}
		o, _ := game.Next(g)
		next, e := ops.Print(o)
		if e != api.OK {
			next = "-"
		}
		return fmt.Sprintf("pc %04x i %04x delay %02x sound %02x depth %d next %s v %x\n", g.PC, g.I, g.Delay, g.Sound, len(g.Stack), next, g.V)
	}
}

// asTwin holds Run against the twin.
func asTwin(t *testing.T, text string) {
	t.Helper()
	told, e, n := Run(text)
	want, wantE, wantN := twinRun(text)
	if told == want && e == wantE && n == wantN {
		return
	}
	at := 0
	for at < min(len(told), len(want)) && told[at] == want[at] {
		at++
	}
	from := max(0, at-200)
	t.Fatalf("Run of\n%s\n%d, %d; want %d, %d; told, from byte %d on:\n%s\nwant\n%s", brief(text), e, n, wantE, wantN, from, brief(told[from:]), brief(want[from:]))
}

// P24.1: the twin itself tells DOC.md's examples.
func TestTwin(t *testing.T) {
	for k, p := range examples() {
		t.Run(fmt.Sprint(k+1), func(t *testing.T) {
			t.Parallel()
			if told, e, n := twinRun(p.text); told != p.told || e != api.OK || n != 0 {
				t.Fatalf("%d, %d\n%s\nwant\n%s", e, n, told, p.told)
			}
		})
	}
}
