package script

import (
	"iter"
	"math"
	"slices"
	"testing"

	"vesper/api"
)

const (
	most  = 1048576 // cycles of a span
	whole = 4194304 // cycles of a script
	many  = 4096    // spans
)

// row is so many spans of so many cycles each.
func row(count, cycles int) []api.Span {
	return slices.Repeat([]api.Span{{Cycles: cycles}}, count)
}

// oneOfEach are spans of one cycle, of which each differs from the first one in one thing alone.
func oneOfEach() []api.Span {
	return []api.Span{
		{Cycles: 1}, {Cycles: 1, Keys: 1}, {Cycles: 1, Keys: 0x8000}, {Cycles: 1, Tape: true}, {Cycles: 1, Flag: true},
		{Cycles: 1, DMAIn: true}, {Cycles: 1, DMAOut: true}, {Cycles: 1, Interrupt: true}, {Cycles: 1, Clear: true}, {Cycles: 1, Wait: true},
		{Cycles: 1, Bus: 1}, {Cycles: 1, Bus: 0x80},
	}
}

// wrongScripts are scripts that may not be, and what is told of them.
func wrongScripts() map[api.Errno][][]api.Span {
	tooMany := row(many, 1024)
	tooMany[1234].Cycles++
	odd := row(3, 5)
	odd[1].Cycles = 0
	last := row(many, 1)
	last[many-1].Cycles = -1
	return map[api.Errno][][]api.Span{
		api.ErrLong: {row(many+1, 1), row(many+1, 0), row(many+1, most), row(2*many, 1), row(10*many, -1)},
		api.ErrScriptSpan: {
			row(1, 0), row(1, -1), row(1, -most), row(1, most+1), row(1, whole), row(1, whole+1), row(1, math.MaxInt), row(1, math.MinInt),
			row(2, math.MaxInt), row(2, math.MinInt), row(4, math.MaxInt), row(many, 0), row(many, most), row(many, math.MaxInt),
			row(5, most), append(row(4, most), row(1, 1)...), append(row(1, 1), row(4, most)...), row(many, 1025), tooMany, odd, last,
			{{Cycles: 1}, {Cycles: most + 1}}, {{Cycles: most + 2}, {Cycles: -1}}, {{Cycles: 3}, {}}, {{}, {Cycles: 3}},
			append(row(5, most), row(1, -most)...), {{Keys: 1, Tape: true, Wait: true, Bus: 9}},
		},
	}
}

// right are scripts that may be, and how many cycles they have.
var right = []struct {
	count, cycles, all int
}{{0, 0, 0}, {1, 1, 1}, {1, 2, 2}, {1, most, most}, {1, most - 1, most - 1}, {2, most, 2 * most}, {4, most, whole}, {many, 1, many}, {many, 1024, whole}, {many - 1, 1024, whole - 1024}}

// P7.1, P7.2: none, one, as many as may be; the least and the most cycles.
func TestCheckRight(t *testing.T) {
	for _, x := range right {
		l := row(x.count, x.cycles)
		if e := Check(l); e != api.OK {
			t.Errorf("Check of %d spans of %d: %d", x.count, x.cycles, e)
		}
		if n, e := Cycles(l); n != x.all || e != api.OK {
			t.Errorf("Cycles of %d spans of %d: %d, %d", x.count, x.cycles, n, e)
		}
	}
	if e := Check(nil); e != api.OK {
		t.Errorf("Check of nil: %d", e)
	}
	if e := Check([]api.Span{}); e != api.OK {
		t.Errorf("Check of no span: %d", e)
	}
}

// P7.1: all but the cycles may be anything.
func TestCheckAllElse(t *testing.T) {
	for _, s := range oneOfEach() {
		if e := Check([]api.Span{s}); e != api.OK {
			t.Errorf("Check of %+v: %d", s, e)
		}
		s.Cycles = 0
		if e := Check([]api.Span{s}); e != api.ErrScriptSpan {
			t.Errorf("Check of %+v: %d", s, e)
		}
	}
}

// P7.1 to P7.6: of a script that may not be each call tells Check's error, with nothing beside it; All goes through nothing.
func TestWrongScripts(t *testing.T) {
	for want, scripts := range wrongScripts() {
		for i, l := range scripts {
			if e := Check(l); e != want {
				t.Errorf("%d, %d: Check %d", want, i, e)
			}
			if n, e := Cycles(l); n != 0 || e != want {
				t.Errorf("%d, %d: Cycles %d, %d", want, i, n, e)
			}
			for n := range All(l) {
				t.Fatalf("%d, %d: All comes to %d", want, i, n)
			}
			for _, n := range []int{0, 1, -1, whole + 1} {
				if a, b, e := Cut(l, n); len(a) != 0 || len(b) != 0 || e != want {
					t.Errorf("%d, %d: Cut at %d: %d spans, %d, %d", want, i, n, len(a), len(b), e)
				}
			}
			if n, e := Normal(l); len(n) != 0 || e != want {
				t.Errorf("%d, %d: Normal %d spans, %d", want, i, len(n), e)
			}
			if s, e := Print(l); s != "" || e != want {
				t.Errorf("%d, %d: Print %.20q, %d", want, i, s, e)
			}
		}
	}
}

// P7.2: neither, either, both, whatever else the span is.
func TestMode(t *testing.T) {
	for _, s := range append(oneOfEach(), api.Span{}, api.Span{Cycles: -1, Keys: 0xffff, Tape: true, Flag: true, DMAIn: true, DMAOut: true, Interrupt: true, Bus: 0xff}) {
		for _, x := range []struct {
			clear, wait bool
			want        api.Mode
		}{{false, false, api.Run}, {false, true, api.Pause}, {true, false, api.Reset}, {true, true, api.Load}} {
			s.Clear, s.Wait = x.clear, x.wait
			if m := Mode(s); m != x.want {
				t.Errorf("Mode of %+v = %d", s, m)
			}
		}
	}
}

// wantAll goes through all cycles, and holds them against spans of one cycle.
func wantAll(t *testing.T, all iter.Seq2[int, api.Span], want []api.Span) {
	t.Helper()
	next := 0
	for n, s := range all {
		if n != next || n >= len(want) || s != want[n] {
			t.Fatalf("cycle %d, as the number %d: %+v", next, n, s)
		}
		next++
	}
	if next != len(want) {
		t.Fatalf("%d cycles of %d", next, len(want))
	}
}

// P7.3: each cycle once, with its number, and 1 in Cycles.
func TestAll(t *testing.T) {
	wantAll(t, All(nil), nil)
	wantAll(t, All(oneOfEach()), oneOfEach())
	keys, tape := api.Span{Cycles: 1, Keys: 1}, api.Span{Cycles: 1, Tape: true}
	wantAll(t, All([]api.Span{{Cycles: 2, Keys: 1}, {Cycles: 3, Tape: true}, {Cycles: 1, Keys: 1}}), []api.Span{keys, keys, tape, tape, tape, keys})
}

// P7.3: as many cycles as may be.
func TestAllOfMost(t *testing.T) {
	l := row(4, most)
	l[3].Flag = true
	n, flags := 0, 0
	for i, s := range All(l) {
		if i != n || s.Cycles != 1 {
			t.Fatalf("cycle %d: the number %d, %+v", n, i, s)
		}
		n++
		if s.Flag {
			flags++
		}
	}
	if n != whole || flags != most {
		t.Errorf("%d cycles, %d with the flag", n, flags)
	}
}

// P7.3: left early at each cycle, and ranged over again behind that.
func TestAllLeftEarly(t *testing.T) {
	l := []api.Span{{Cycles: 2, Keys: 1}, {Cycles: 1}, {Cycles: 3, Bus: 4}}
	all := All(l)
	for stop := range 6 {
		seen := 0
		for n := range all {
			seen++
			if n == stop {
				break
			}
		}
		if seen != stop+1 {
			t.Errorf("left at %d behind %d", stop, seen)
		}
		wantAll(t, all, slices.Collect(values(all)))
		wantAll(t, all, slices.Collect(values(All(l))))
	}
}

func values(all iter.Seq2[int, api.Span]) iter.Seq[api.Span] {
	return func(yield func(api.Span) bool) {
		for _, s := range all {
			if !yield(s) {
				return
			}
		}
	}
}

// P7.3: ranged over within itself, each goes by itself; two that take turns do so, too.
func TestAllWithinItself(t *testing.T) {
	l := []api.Span{{Cycles: 2, Keys: 1}, {Cycles: 1}, {Cycles: 3, Bus: 4}}
	all := All(l)
	want := slices.Collect(values(All(l)))
	outer := 0
	for n, s := range all {
		if n != outer || s != want[n] {
			t.Fatalf("outer cycle %d: %d, %+v", outer, n, s)
		}
		outer++
		wantAll(t, all, want)
	}
	if outer != 6 {
		t.Errorf("%d outer cycles", outer)
	}
	one, stopOne := iter.Pull2(all)
	defer stopOne()
	two, stopTwo := iter.Pull2(all)
	defer stopTwo()
	for i := range 6 {
		n, s, _ := one()
		m, u, _ := two()
		if n != i || m != i || s != want[i] || u != want[i] {
			t.Fatalf("%d and %d at %d", n, m, i)
		}
	}
}

// P7.3: what the list becomes behind the call is not seen, ahead of a range nor within one; the list itself stays.
func TestAllOfChangedList(t *testing.T) {
	l := []api.Span{{Cycles: 2, Keys: 1}, {Cycles: 1}, {Cycles: 3, Bus: 4}}
	before := slices.Clone(l)
	want := slices.Collect(values(All(l)))
	all := All(l)
	wantAll(t, all, want)
	if !slices.Equal(l, before) {
		t.Fatalf("the list is now %v", l)
	}
	l[0].Keys = 9
	wantAll(t, all, want)
	next := 0
	for n, s := range all {
		l[2] = api.Span{Cycles: 7, Wait: true}
		l[1].Cycles = 0
		if n != next || s != want[n] {
			t.Fatalf("cycle %d: %d, %+v", next, n, s)
		}
		next++
	}
	wantAll(t, all, want)
	wrong := row(1, 0)
	none := All(wrong)
	wrong[0].Cycles = 1
	wantAll(t, none, nil)
}

func wantCut(t *testing.T, l []api.Span, n int, first, others []api.Span) {
	t.Helper()
	before := slices.Clone(l)
	a, b, e := Cut(l, n)
	if e != api.OK || !slices.Equal(a, first) || !slices.Equal(b, others) {
		t.Errorf("Cut at %d: %v, %v, %d", n, a, b, e)
	}
	if !slices.Equal(l, before) {
		t.Errorf("Cut at %d: the script is now %v", n, l)
	}
}

// P7.4: at 0, within spans, at their ends, at the end; spans that are alike stay apart.
func TestCut(t *testing.T) {
	l := []api.Span{{Cycles: 2, Keys: 3, Bus: 1}, {Cycles: 3, Wait: true}, {Cycles: 1, Wait: true}}
	wantCut(t, l, 0, nil, l)
	wantCut(t, l, 1, []api.Span{{Cycles: 1, Keys: 3, Bus: 1}}, []api.Span{{Cycles: 1, Keys: 3, Bus: 1}, {Cycles: 3, Wait: true}, {Cycles: 1, Wait: true}})
	wantCut(t, l, 2, l[:1], l[1:])
	wantCut(t, l, 3, []api.Span{l[0], {Cycles: 1, Wait: true}}, []api.Span{{Cycles: 2, Wait: true}, l[2]})
	wantCut(t, l, 4, []api.Span{l[0], {Cycles: 2, Wait: true}}, []api.Span{{Cycles: 1, Wait: true}, l[2]})
	wantCut(t, l, 5, l[:2], l[2:])
	wantCut(t, l, 6, l, nil)
	wantCut(t, nil, 0, nil, nil)
	long := row(4, most)
	wantCut(t, long, whole, long, nil)
	wantCut(t, long, whole-1, append(row(3, most), row(1, most-1)...), row(1, 1))
	wantCut(t, long, 1, row(1, 1), append(row(1, most-1), row(3, most)...))
	wantCut(t, long, most, row(1, most), row(3, most))
	short := row(many, 2)
	wantCut(t, short, 4095, append(row(2047, 2), row(1, 1)...), append(row(1, 1), row(2048, 2)...))
}

// P7.4: numbers of cycles that a script has not.
func TestCutAtWrongPlaces(t *testing.T) {
	for _, x := range right {
		for _, n := range []int{-1, -2, x.all + 1, x.all + 2, whole + 1, math.MaxInt, math.MinInt} {
			if a, b, e := Cut(row(x.count, x.cycles), n); len(a) != 0 || len(b) != 0 || e != api.ErrArg {
				t.Errorf("Cut of %d spans of %d at %d: %d spans, %d, %d", x.count, x.cycles, n, len(a), len(b), e)
			}
		}
	}
}

func wantNormal(t *testing.T, l, want []api.Span) {
	t.Helper()
	before := slices.Clone(l)
	if n, e := Normal(l); e != api.OK || !slices.Equal(n, want) {
		t.Errorf("Normal of %v: %v, %d", l, n, e)
	}
	if !slices.Equal(l, before) {
		t.Errorf("Normal: the script is now %v", l)
	}
}

// P7.5: spans side by side that are alike come together, others do not.
func TestNormal(t *testing.T) {
	wantNormal(t, nil, nil)
	wantNormal(t, row(1, 1), row(1, 1))
	wantNormal(t, row(2, 3), row(1, 6))
	wantNormal(t, row(many, 1), row(1, many))
	wantNormal(t, oneOfEach(), oneOfEach())
	for i, a := range oneOfEach() {
		for j, b := range oneOfEach() {
			a.Cycles, b.Cycles = 5, 7
			if i != j {
				wantNormal(t, []api.Span{a, b, a, a}, []api.Span{a, b, {Cycles: 10, Keys: a.Keys, Tape: a.Tape, Flag: a.Flag, DMAIn: a.DMAIn, DMAOut: a.DMAOut, Interrupt: a.Interrupt, Clear: a.Clear, Wait: a.Wait, Bus: a.Bus}})
			}
		}
	}
}

// P7.5: rows of less than, just and more than the most cycles of a span.
func TestNormalOfLongRows(t *testing.T) {
	wantNormal(t, append(row(1, most-2), row(1, 1)...), row(1, most-1))
	wantNormal(t, append(row(1, most-1), row(1, 1)...), row(1, most))
	wantNormal(t, append(row(1, 1), row(1, most-1)...), row(1, most))
	wantNormal(t, row(2, most/2), row(1, most))
	wantNormal(t, append(row(1, 1), row(1, most)...), append(row(1, most), row(1, 1)...))
	wantNormal(t, append(row(1, most), row(1, 1)...), append(row(1, most), row(1, 1)...))
	wantNormal(t, row(3, most-1), append(row(2, most), row(1, most-3)...))
	wantNormal(t, row(4, most), row(4, most))
	wantNormal(t, row(many, 1024), row(4, most))
	wantNormal(t, row(many, 1023), append(row(3, most), row(1, most-many)...))
	flagged := func(cycles int) api.Span { return api.Span{Cycles: cycles, Flag: true} }
	wantNormal(t, []api.Span{flagged(most - 1), flagged(2), {Cycles: 1}, {Cycles: most}, flagged(1)}, []api.Span{flagged(most), flagged(1), {Cycles: most}, {Cycles: 1}, flagged(1)})
}

// The chapter's examples of P7.1 to P7.5.
func TestExamples(t *testing.T) {
	if a, b, c := Check(nil), Check(row(1, 0)), Check(row(5, most)); a != api.OK || b != api.ErrScriptSpan || c != api.ErrScriptSpan {
		t.Errorf("Check: %d, %d, %d", a, b, c)
	}
	if m := Mode(api.Span{Clear: true, Wait: true}); m != api.Load {
		t.Errorf("Mode: %d", m)
	}
	taped := api.Span{Cycles: 5, Tape: true}
	l := []api.Span{taped, {Cycles: 3}}
	wantCut(t, l, 6, []api.Span{taped, {Cycles: 1}}, []api.Span{{Cycles: 2}})
	for _, n := range []int{9, -1} {
		if a, b, e := Cut(l, n); len(a) != 0 || len(b) != 0 || e != api.ErrArg {
			t.Errorf("Cut at %d: %v, %v, %d", n, a, b, e)
		}
	}
	wantNormal(t, []api.Span{{Cycles: 1}, {Cycles: 2, Flag: true}, {Cycles: 3, Flag: true}, {Cycles: 1}}, []api.Span{{Cycles: 1}, {Cycles: 5, Flag: true}, {Cycles: 1}})
	wantNormal(t, append(row(1, most), row(1, 1)...), append(row(1, most), row(1, 1)...))
}

// scribble writes over a list, its spare room too, and makes it grow.
func scribble(l []api.Span) {
	l = l[:cap(l)]
	for i := range l {
		l[i] = api.Span{Cycles: -9, Keys: 0xdead, Clear: true}
	}
	l = append(l[:0], api.Span{Cycles: -8})
	_ = append(l, row(2*cap(l)+1, -7)...)
}

// R5: answers share nothing with what was handed in (the room behind its end neither), nor with one another.
func TestAnswersAreNew(t *testing.T) {
	for _, count := range []int{1, 2, 3, 5, 8, 9, 100} {
		room := oneOfEach()
		room = slices.Repeat(room, 20)
		l := room[:count]
		behind := slices.Clone(room)
		for _, n := range []int{0, 1, count / 2, count} {
			a, b, _ := Cut(l, n)
			keptA, keptB, _ := Cut(l, n)
			wantA, wantB := slices.Clone(keptA), slices.Clone(keptB)
			scribble(a)
			if !slices.Equal(b, wantB) {
				t.Fatalf("Cut's second script of %d at %d hangs on its first one", count, n)
			}
			scribble(b)
			few, _ := Normal(l)
			keptFew, _ := Normal(l)
			wantFew := slices.Clone(keptFew)
			scribble(few)
			if !slices.Equal(keptA, wantA) || !slices.Equal(keptB, wantB) || !slices.Equal(keptFew, wantFew) || !slices.Equal(room, behind) {
				t.Fatalf("Cut and Normal of %d spans at %d are kept", count, n)
			}
			scribble(keptB)
			if !slices.Equal(keptA, wantA) {
				t.Fatalf("Cut's first script of %d at %d hangs on its second one", count, n)
			}
		}
	}
}
