package desk

import (
	"errors"
	"reflect"
	"strings"
	"testing"

	"vesper/api"
)

// standing is all that a desk has.
type standing struct {
	object  api.Object
	machine bool
	state   api.Board
	film    api.Film
	kept    map[string][]byte
}

// after is how the desk stands behind a text.
func after(t *testing.T, text string) standing {
	t.Helper()
	l, err := read(text)
	if err != nil {
		t.Fatalf("%s: %v", brief(text), err)
	}
	d := desk{kept: map[string][]byte{}}
	for _, one := range l {
		d.tell(one, deeds()[one.word])
	}
	return standing{d.object, d.machine != nil, d.machine.State(), d.film, d.kept}
}

// spinning is a machine without monitor that shows its memory: Q goes up and down, the chip is on.
const spinning = `source
 at 0000
 OUT 4
 data e1
 at 0002
 LDI 08
 PLO 3
 SEP 3
 at 0008
 INP 1
loop:
 SEQ
 NOP
 REQ
 BR to loop
 at 8000
 OUT 4
 data e1
end
bare 2048
`

// spunFilm is a text behind which the desk has a machine that has spun, an object, a film with frames and beeps, and two kept ones.
const spunFilm = spinning + `save early
play 9000 bus 12
save late
`

// deskTexts are texts behind which desks stand in various ways.
func deskTexts() []string {
	return []string{
		"",
		"source\na:\n NOP\nend\n",
		"machine 2048\n",
		"machine 4096\nplay 8000 keys 1000\nsave a\n",
		"game\nset v0 05\nstay:\njump to stay\nend\nplay 9000\n",
		spunFilm,
		spunFilm + "poke 0000 0102\n",
	}
}

// errorLines are lines that tell an error, whatever the desk; and which one.
func errorLines() []pair {
	return []pair{
		{"source\nNOP\nend", "error 131 at 1"},
		{"source\n NOP\n\n BR 0ab\nend", "error 131 at 3"},
		{"source\n LDI\n LBR to a\nend", "error 131 at 1"},
		{"source\na:\na:\nend", "error 140 at 1"},
		{"source\n; none\n\n LBR to a\nend", "error 141 at 0"},
		{"source\n at 00fe\n BR to a\na:\nend", "error 142 at 1"},
		{"source\n at ffff\n LDI 00\nend", "error 143 at 1"},
		{"source\n data 01 02\n at 0001\n NOP\nend", "error 144 at 2"},
		{"machine 0", "error 220"},
		{"machine 1", "error 220"},
		{"machine 2047", "error 220"},
		{"machine 2049", "error 220"},
		{"machine 34816", "error 220"},
		{"machine 67584", "error 220"},
		{"machine 9999999", "error 220"},
		{"bare 0", "error 220"},
		{"bare 2047", "error 220"},
		{"bare 2049", "error 220"},
		{"bare 32767", "error 220"},
		{"bare 32769", "error 220"},
		{"bare 34816", "error 220"},
		{"bare 65536", "error 220"},
		{"bare 9999999", "error 220"},
		{"game\nset v0 5\nend", "error 161 at 1"},
		{"game\n\nclear\na: ; here\n a: \nend", "error 161 at 4"},
		{"game\nclear\njump to nowhere\nend", "error 160 at 2"},
		{"game\n" + strings.Repeat("data"+strings.Repeat(" 00", 32)+"\n", 101) + "data 00\nend", "error 2 at 102"},
		{"game\n" + strings.Repeat("clear\n", 3) + "jump to b\nb\nend", "error 161 at 5"},
	}
}

// machineErrorLines are lines that tell an error where there is a machine: the scripts may not be.
func machineErrorLines() []pair {
	return []pair{
		{"press 0 0 1", "error 70"},
		{"press 15 1 0", "error 70"},
		{"press 3 0 0", "error 70"},
		{"press 3 1048577 1", "error 70"},
		{"press 3 1 1048577", "error 70"},
		{"press 3 9999999 9999999", "error 70"},
	}
}

// echoOf is what is told ahead of what a line tells.
func echoOf(line string) string {
	first, _, _ := strings.Cut(line, "\n")
	return "> " + first + "\n"
}

// tellsError: behind a text the line tells that error, and the desk stands as it stood ahead.
func tellsError(t *testing.T, text string, p pair) {
	t.Helper()
	ahead := told(t, text)
	tells(t, text+p.text+"\n", ahead+echoOf(p.text)+p.told+"\n")
	asTwin(t, text+p.text+"\n")
	if was, is := after(t, text), after(t, text+p.text+"\n"); !reflect.DeepEqual(was, is) {
		t.Fatalf("behind %s the desk stands otherwise than ahead of it", brief(p.text))
	}
	// And what is told of all that it has is told again.
	all := "list\ntrace 20\nframes\nscreen\nbeeps\ncpu\nraster\nmemory 0000 256\nmemory 0ef0 16\nsame a\nsame early\nsame late\nload late\ncpu\n"
	without, with := told(t, text+all), told(t, text+p.text+"\n"+all)
	if with != ahead+echoOf(p.text)+p.told+"\n"+strings.TrimPrefix(without, ahead) {
		t.Fatalf("behind %s is told\n%s\nwithout it\n%s", brief(p.text), brief(with), brief(without))
	}
}

// The section 'Lines': each line that tells an error, in each way that it may, changes nothing.
func TestErrorsChangeNothing(t *testing.T) {
	texts := deskTexts()
	abreast(t, len(texts), func(t *testing.T, n int) {
		l := errorLines()
		if strings.Contains(texts[n], "end\nbare") || strings.HasPrefix(texts[n], "machine") || strings.HasPrefix(texts[n], "game") {
			l = append(l, machineErrorLines()...)
		}
		for _, p := range l {
			tellsError(t, texts[n], p)
		}
	})
}

// wanting are lines of those that want a machine, in all their forms.
func wanting() []string {
	return []string{
		"play 1", "play 1048576", "play 3 keys 0001 wait bus ff", "press 0 1 1", "press 15 0 0", "press 7 9999999 9999999",
		"cpu", "raster", "memory 0000 1", "memory ffff 256", "poke 0000 00", "poke ffff 0102", "beat", "save a", "save none", "same a", "same none",
	}
}

// The section 'Lines': what wants a machine tells error 241 where there is none, and does nothing; with one it tells something else.
func TestLinesThatWantAMachine(t *testing.T) {
	t.Parallel()
	for _, line := range wanting() {
		for _, text := range []string{"", "source\na:\n NOP\nend\n", "load a\n", "machine 2049\nbare 0\ngame\nsing\nend\n"} {
			tellsError(t, text, pair{line, "error 241"})
		}
		if strings.Contains(line, "1048576") {
			continue
		}
		for _, text := range []string{"machine 2048\n", "bare 2048\n", "game\nend\n"} {
			if got := lastTold(t, text, line); got == "" || got == "error 241\n" {
				t.Fatalf("%q with a machine: %q", line, got)
			}
			asTwin(t, text+line+"\n")
		}
	}
}

// The section 'Lines': the others want none.
func TestLinesWithoutAMachine(t *testing.T) {
	for _, text := range []string{"", "cpu\nplay 100\n"} {
		lastTells(t, text, "list", "")
		lastTells(t, text, "trace 0", "")
		lastTells(t, text, "trace 1", "")
		lastTells(t, text, "trace 9999999", "")
		lastTells(t, text, "frames", "frames 0\n")
		lastTells(t, text, "screen", "none\n")
		lastTells(t, text, "beeps", "beeps 0\n")
		lastTells(t, text, "load a", "none\n")
		lastTells(t, text, "machine 2048", "ok\n")
		lastTells(t, text, "bare 2048", "ok\n")
	}
	tells(t, "source\nend\ngame\nend\n", "> source\nobject 0 0\n> game\ngame 0\n")
}

// The ways: each line of the table has a form, and a deed.
func TestTablesAgree(t *testing.T) {
	deeds, forms := deeds(), forms()
	if len(deeds) != 19 || len(forms) != 19 {
		t.Fatal(len(deeds), len(forms))
	}
	for word := range forms {
		if deeds[word] == nil {
			t.Error(word)
		}
	}
}

// The ways: what goes wrong is an error that wraps another one, and both are found in it.
func TestWrapped(t *testing.T) {
	for text, want := range map[string]string{
		"sing\n":          "desk: line 1: error 240",
		"list\nsource\n":  "desk: line 3: error 240",
		"list\n\n\ncpu 1": "desk: line 4: error 240",
	} {
		_, err := read(text)
		var which undone
		var why fault
		if !errors.As(err, &which) || !errors.As(err, &why) || err.Error() != want || errors.Unwrap(err) != error(why) {
			t.Errorf("%q: %v; want %s", text, err, want)
		}
	}
	if _, err := read(strings.Repeat("\n", 65537)); err == nil || err.Error() != "error 2" || lineOf(err) != 0 {
		t.Error(err)
	}
	d := desk{}
	for text, want := range map[string]string{
		"\ncpu\n":                   "desk: line 2: error 241",
		"machine 1\n":               "desk: line 1: error 220",
		"# a\nsource\n\nNOP\nend\n": "desk: line 2: error 131 at 2",
	} {
		l, err := read(text)
		if err != nil {
			t.Fatal(err)
		}
		told, err := d.do(l[0], deeds()[l[0].word])
		var why fault
		if !errors.As(err, &why) || err.Error() != want || told != "" {
			t.Errorf("%q: %v, %q; want %s", text, err, told, want)
		}
	}
}
