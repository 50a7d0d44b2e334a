package script

import (
	"fmt"
	"regexp"
	"slices"
	"strconv"
	"strings"
	"testing"

	"vesper/api"
)

// draw goes on from number to number, the same ones in each run.
type draw uint64

func (d *draw) below(n int) int {
	*d = *d*6364136223846793005 + 1442695040888963407
	return int(uint64(*d) >> 33 % uint64(n))
}

func (d *draw) chance(n int) bool { return d.below(n) == 0 }

// span is one of few kinds, so that spans that are alike come to stand side by side.
func (d *draw) span(cycles int) api.Span {
	s := api.Span{Cycles: cycles}
	switch d.below(12) {
	case 0:
		s.Keys = uint16(d.below(65536))
	case 1:
		s.Bus = byte(d.below(256))
	case 2:
		s = api.Span{
			Cycles: cycles, Keys: uint16(d.below(65536)), Tape: d.chance(2), Flag: d.chance(2), DMAIn: d.chance(2), DMAOut: d.chance(2),
			Interrupt: d.chance(2), Clear: d.chance(2), Wait: d.chance(2), Bus: byte(d.below(256)),
		}
	case 3, 4:
		s.Tape = true
	case 5:
		s.Flag = true
	}
	return s
}

// twinAll are the cycles of a script, one by one, each in a span of its own.
func twinAll(l []api.Span) []api.Span {
	var all []api.Span
	for _, s := range l {
		one := s
		one.Cycles = 1
		all = append(all, slices.Repeat([]api.Span{one}, s.Cycles)...)
	}
	return all
}

// twinNormal sums up each row of spans that are alike, and deals its cycles out anew.
func twinNormal(l []api.Span) []api.Span {
	var few []api.Span
	for from := 0; from < len(l); {
		kind := l[from]
		total := 0
		for from < len(l) {
			next := l[from]
			next.Cycles = kind.Cycles
			if next != kind {
				break
			}
			total += l[from].Cycles
			from++
		}
		kind.Cycles = most
		few = append(few, slices.Repeat([]api.Span{kind}, total/most)...)
		if kind.Cycles = total % most; kind.Cycles > 0 {
			few = append(few, kind)
		}
	}
	return few
}

// twinLine is the line of a span, by the words of P7.6.
func twinLine(s api.Span) string {
	line := fmt.Sprintf("%d", s.Cycles)
	if s.Keys != 0 {
		line += fmt.Sprintf(" keys %04x", s.Keys)
	}
	names := []string{"tape", "flag", "in", "out", "int", "clear", "wait"}
	for i, on := range []bool{s.Tape, s.Flag, s.DMAIn, s.DMAOut, s.Interrupt, s.Clear, s.Wait} {
		if on {
			line += " " + names[i]
		}
	}
	if s.Bus != 0 {
		line += fmt.Sprintf(" bus %02x", s.Bus)
	}
	return line + "\n"
}

var twinForm = regexp.MustCompile(`^([1-9][0-9]*)( keys [0-9a-f]{4})?( tape)?( flag)?( in)?( out)?( int)?( clear)?( wait)?( bus [0-9a-f]{2})?\n$`)

// twinRead is the span of a line that has the form; its cycles are 0, if it has not.
func twinRead(line string) api.Span {
	m := twinForm.FindStringSubmatch(line)
	if m == nil || m[2] == " keys 0000" || m[10] == " bus 00" {
		return api.Span{}
	}
	cycles, err := strconv.Atoi(m[1])
	if err != nil || cycles > most {
		return api.Span{}
	}
	keys, _ := strconv.ParseUint(strings.TrimPrefix(m[2], " keys "), 16, 16)
	bus, _ := strconv.ParseUint(strings.TrimPrefix(m[10], " bus "), 16, 8)
	return api.Span{
		Cycles: cycles, Keys: uint16(keys), Tape: m[3] != "", Flag: m[4] != "", DMAIn: m[5] != "", DMAOut: m[6] != "",
		Interrupt: m[7] != "", Clear: m[8] != "", Wait: m[9] != "", Bus: byte(bus),
	}
}

// twinParse is Parse by the words of P7.7.
func twinParse(text string) ([]api.Span, api.Errno, int) {
	all := strings.SplitAfter(text, "\n")
	if all[len(all)-1] == "" {
		all = all[:len(all)-1]
	}
	if len(text) > 65536 || len(all) > many {
		return nil, api.ErrLong, 0
	}
	var l []api.Span
	cycles := 0
	for i, line := range all {
		s := twinRead(line)
		if s.Cycles == 0 {
			return nil, api.ErrScriptText, i + 1
		}
		if cycles += s.Cycles; cycles > whole {
			return nil, api.ErrScriptSpan, i + 1
		}
		l = append(l, s)
	}
	return l, api.OK, 0
}

// P7.2 to P7.8: short scripts of all kinds, each cut at each cycle.
func TestRunsOfShortScripts(t *testing.T) {
	d := draw(7)
	for range 400 {
		var l []api.Span
		for range d.below(12) {
			l = append(l, d.span(1+d.below(6)))
		}
		all := twinAll(l)
		if n, e := Cycles(l); n != len(all) || e != api.OK {
			t.Fatalf("Cycles of %v: %d, %d", l, n, e)
		}
		wantAll(t, All(l), all)
		wantThereAndBack(t, l)
		wantNormalOf(t, l, all)
		for n := range len(all) + 1 {
			wantHalves(t, l, all, n)
		}
	}
}

func wantThereAndBack(t *testing.T, l []api.Span) {
	t.Helper()
	var want strings.Builder
	for _, s := range l {
		want.WriteString(twinLine(s))
	}
	text, e := Print(l)
	if text != want.String() || e != api.OK {
		t.Fatalf("Print of %v: %q, %d", l, text, e)
	}
	back, e, at := Parse(text)
	if !slices.Equal(back, l) || e != api.OK || at != 0 {
		t.Fatalf("Parse of Print of %v: %v, %d, %d", l, back, e, at)
	}
}

func wantNormalOf(t *testing.T, l, all []api.Span) {
	t.Helper()
	few, e := Normal(l)
	if e != api.OK || !slices.Equal(few, twinNormal(l)) {
		t.Fatalf("Normal of %v: %v, %d", l, few, e)
	}
	wantAll(t, All(few), all)
	if again, e := Normal(few); e != api.OK || !slices.Equal(again, few) {
		t.Fatalf("Normal of Normal of %v: %v, %d", l, again, e)
	}
}

func wantHalves(t *testing.T, l, all []api.Span, n int) {
	t.Helper()
	first, others, e := Cut(l, n)
	if e != api.OK {
		t.Fatalf("Cut of %v at %d: %d", l, n, e)
	}
	if got, e := Cycles(first); got != n || e != api.OK {
		t.Fatalf("Cut of %v at %d: %d cycles, %d", l, n, got, e)
	}
	wantAll(t, All(first), all[:n])
	wantAll(t, All(others), all[n:])
	if extra := len(first) + len(others) - len(l); extra < 0 || extra > 1 {
		t.Fatalf("Cut of %v at %d: %v, %v", l, n, first, others)
	}
}

// P7.5, P7.8: scripts that go through the same cycles have the same Normal, others have another one.
func TestRunsOfNormals(t *testing.T) {
	d := draw(11)
	for range 3000 {
		a, b := []api.Span{}, []api.Span{}
		for range d.below(5) {
			a = append(a, api.Span{Cycles: 1 + d.below(2), Tape: d.chance(2)})
		}
		for range d.below(5) {
			b = append(b, api.Span{Cycles: 1 + d.below(2), Tape: d.chance(2)})
		}
		na, _ := Normal(a)
		nb, _ := Normal(b)
		if slices.Equal(na, nb) != slices.Equal(twinAll(a), twinAll(b)) {
			t.Fatalf("%v and %v: Normals %v and %v", a, b, na, nb)
		}
		wantHalvesTogether(t, a, d.below(len(twinAll(a))+1))
	}
}

// P7.8: the two scripts of a Cut, laid behind one another, have the Normal of the script.
func wantHalvesTogether(t *testing.T, l []api.Span, n int) {
	t.Helper()
	first, others, _ := Cut(l, n)
	together, e := Normal(slices.Concat(first, others))
	want, _ := Normal(l)
	if e != api.OK || !slices.Equal(together, want) {
		t.Fatalf("Cut of %v at %d: Normal %v, %d", l, n, together, e)
	}
}

// P7.5, P7.8: long spans of few kinds.
func TestRunsOfLongScripts(t *testing.T) {
	d := draw(13)
	for range 2000 {
		var l []api.Span
		left := whole
		for left > 0 && len(l) < 12 {
			cycles := min(left, 1+d.below(most))
			if d.chance(3) {
				cycles = min(left, most-d.below(3))
			}
			l = append(l, api.Span{Cycles: cycles, Flag: d.chance(3)})
			left -= cycles
		}
		few, e := Normal(l)
		if e != api.OK || !slices.Equal(few, twinNormal(l)) {
			t.Fatalf("Normal of %v: %v, %d", l, few, e)
		}
		wantHalvesTogether(t, l, d.below(whole-left+1))
	}
}

// P7.7, P7.8: texts that are nearly scripts, against the form of a line; what is taken is printed as it was.
func TestRunsOfTexts(t *testing.T) {
	d := draw(17)
	taken := 0
	for range 60000 {
		text := ""
		for range 1 + d.below(3) {
			text += twinLine(d.span(1 + d.below(200)))
		}
		text = d.spoil(text)
		l, e, at := Parse(text)
		wantL, wantE, wantAt := twinParse(text)
		if !slices.Equal(l, wantL) || e != wantE || at != wantAt {
			t.Fatalf("Parse of %q: %v, %d, %d; want %v, %d, %d", text, l, e, at, wantL, wantE, wantAt)
		}
		if e != api.OK {
			continue
		}
		taken++
		if back, e := Print(l); back != text || e != api.OK {
			t.Fatalf("Print of Parse of %q: %q, %d", text, back, e)
		}
	}
	if taken < 6000 || taken > 54000 {
		t.Errorf("%d texts were taken", taken)
	}
}

// spoil changes, drops or puts in a word or a sign, or leaves the text as it is.
func (d *draw) spoil(text string) string {
	signs := "0019af A\n\tx"
	at := d.below(len(text))
	words := strings.SplitAfter(text, " ")
	w := d.below(len(words))
	switch d.below(6) {
	case 0:
		return text[:at] + text[at+1:]
	case 1:
		return text[:at] + string(signs[d.below(len(signs))]) + text[at:]
	case 2:
		return text[:at] + string(signs[d.below(len(signs))]) + text[at+1:]
	case 3:
		return strings.Join(slices.Delete(words, w, w+1), "")
	case 4:
		known := []string{"keys ", "tape ", "flag ", "in ", "out ", "int ", "clear ", "wait ", "bus ", "0000 ", "00 "}
		return strings.Join(slices.Insert(words, w, known[d.below(len(known))]), "")
	}
	return text
}

// P7.7: texts of many lines, about as long as may be.
func TestRunsOfLongTexts(t *testing.T) {
	d := draw(19)
	for range 60 {
		var text strings.Builder
		mostCycles := []int{1, 100, 1000, 2000, 100000}[d.below(5)]
		for text.Len() < 65500+d.below(60) {
			s := api.Span{Cycles: 1 + d.below(mostCycles), Tape: d.chance(2), Keys: uint16(d.below(3)), Wait: mostCycles > 1}
			text.WriteString(twinLine(s))
		}
		l, e, at := Parse(text.String())
		wantL, wantE, wantAt := twinParse(text.String())
		if !slices.Equal(l, wantL) || e != wantE || at != wantAt {
			t.Fatalf("Parse of %d bytes: %d spans, %d, %d; want %d, %d, %d", text.Len(), len(l), e, at, len(wantL), wantE, wantAt)
		}
	}
}
