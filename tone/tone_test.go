package tone

import (
	"fmt"
	"slices"
	"strings"
	"testing"

	"vesper/api"
	"vesper/board"
)

// P11.1 to P11.3: the chapter's examples, each row.
func TestExamples(t *testing.T) {
	l := []api.Record{{}, {}, {Q: true}, {Q: true}, {Q: true}, {}, {Q: true}}
	if got, want := Beeps(l), []api.Beep{{From: 2, To: 5}, {From: 6, To: 7}}; !slices.Equal(got, want) {
		t.Errorf("Beeps: %v; want %v", got, want)
	}
	if got, want := Waves(l), []api.Wave{{High: 3, Low: 1}, {High: 1, Low: 0}}; !slices.Equal(got, want) {
		t.Errorf("Waves: %v; want %v", got, want)
	}
	if got, want := Levels(l), []int{2, 3, 1, 1}; !slices.Equal(got, want) {
		t.Errorf("Levels: %v; want %v", got, want)
	}
	if got, want := Levels([]api.Record{{Q: true}}), []int{0, 1}; !slices.Equal(got, want) {
		t.Errorf("Levels of one high record: %v; want %v", got, want)
	}
	if got := Levels(nil); len(got) != 0 {
		t.Errorf("Levels of none: %v", got)
	}
}

// P11.1 to P11.3: the edges, answers written out.
func TestEdges(t *testing.T) {
	for _, x := range []struct{ q, want string }{
		{"", "[] [] []"},
		{".", "[] [] [1]"},
		{"#", "[{0 1}] [{1 0}] [0 1]"},
		{".....", "[] [] [5]"},
		{"#####", "[{0 5}] [{5 0}] [0 5]"},
		{"..##", "[{2 4}] [{2 0}] [2 2]"},
		{"##..", "[{0 2}] [{2 2}] [0 2 2]"},
		{"..#...", "[{2 3}] [{1 3}] [2 1 3]"},
		{"##.###", "[{0 2} {3 6}] [{2 1} {3 0}] [0 2 1 3]"},
		{"#.#.#", "[{0 1} {2 3} {4 5}] [{1 1} {1 1} {1 0}] [0 1 1 1 1 1]"},
		{".#.#.", "[{1 2} {3 4}] [{1 1} {1 1}] [1 1 1 1 1]"},
		{"#.", "[{0 1}] [{1 1}] [0 1 1]"},
		{".#", "[{1 2}] [{1 0}] [1 1]"},
		{"####.", "[{0 4}] [{4 1}] [0 4 1]"},
		{"....#", "[{4 5}] [{1 0}] [4 1]"},
		{"#....", "[{0 1}] [{1 4}] [0 1 4]"},
		{".####", "[{1 5}] [{4 0}] [1 4]"},
		{".......##.", "[{7 9}] [{2 1}] [7 2 1]"},
	} {
		l := wantTones(t, records(x.q))
		if got := fmt.Sprint(l.beeps, l.waves, l.levels); got != x.want {
			t.Errorf("of %q: %s; want %s", x.q, got, x.want)
		}
	}
}

// R3: nil and an empty list are the same, in and out.
func TestNoRecords(t *testing.T) {
	some := records("##.#")
	for _, l := range [][]api.Record{nil, {}, make([]api.Record, 0, 9), some[:0], some[4:]} {
		if got := tonesOf(l); len(got.beeps)+len(got.waves)+len(got.levels) != 0 {
			t.Errorf("of no records: %v", got)
		}
	}
}

// allTraces are the drawings of so many records.
func allTraces(n int) []string {
	out := []string{""}
	for range n {
		var longer []string
		for _, q := range out {
			longer = append(longer, q+".", q+"#")
		}
		out = longer
	}
	return out
}

// P11.1 to P11.4: every trace of up to 13 records.
func TestEveryShortTrace(t *testing.T) {
	for n := range 14 {
		for _, q := range allTraces(n) {
			wantTones(t, records(q))
		}
	}
}

// P11.1 to P11.4: rows of any length, many of them, and few long ones.
func TestLongTraces(t *testing.T) {
	d := uint64(3)
	for _, most := range []int{1, 2, 3, 50, 4000, 100000} {
		for begin := range 2 {
			var b strings.Builder
			for k := begin; b.Len() < 200000; k++ {
				b.WriteString(strings.Repeat(".#"[k%2:k%2+1], 1+draw(&d, most)))
			}
			wantTones(t, records(b.String()))
			wantTones(t, records(b.String()[:b.Len()-1]))
		}
	}
}

// P11.1 to P11.3: there is no limit to the records; a trace of more than a script's most cycles.
func TestMoreThanAScript(t *testing.T) {
	l := make([]api.Record, api.MaxCycles+3)
	if got := fmt.Sprint(Beeps(l), Waves(l), Levels(l)); got != "[] [] [4194307]" {
		t.Errorf("all low: %s", got)
	}
	l[len(l)-1].Q = true
	if got := fmt.Sprint(Beeps(l), Waves(l), Levels(l)); got != "[{4194306 4194307}] [{1 0}] [4194306 1]" {
		t.Errorf("the last one high: %s", got)
	}
	for i := range l {
		l[i].Q = true
	}
	if got := fmt.Sprint(Beeps(l), Waves(l), Levels(l)); got != "[{0 4194307}] [{4194307 0}] [0 4194307]" {
		t.Errorf("all high: %s", got)
	}
}

// P11.5: any two traces of up to seven records have the same levels just if they are as long and Q is the same throughout.
func TestSameLevels(t *testing.T) {
	var all []string
	for n := range 8 {
		all = append(all, allTraces(n)...)
	}
	var levels [][]int
	for _, q := range all {
		levels = append(levels, Levels(records(q)))
	}
	for i, p := range all {
		for k, q := range all {
			if slices.Equal(levels[i], levels[k]) != (p == q) {
				t.Fatalf("the levels of %q are %v, of %q %v", p, levels[i], q, levels[k])
			}
		}
	}
}

// P11.5: two traces that differ in one record's Q: at the front, in the middle, at the end, at any place.
func TestOneRecordApart(t *testing.T) {
	d := uint64(4)
	for range 40 {
		l := anyRecords(&d, 1+draw(&d, 60))
		want := Levels(l)
		for _, at := range []int{0, len(l) / 2, len(l) - 1, draw(&d, len(l))} {
			other := slices.Clone(l)
			other[at].Q = !other[at].Q
			if got := Levels(other); slices.Equal(got, want) {
				t.Errorf("record %d of %d is another one: levels %v of both", at, len(l), got)
			}
			wantTones(t, other)
		}
		for _, other := range [][]api.Record{l[1:], l[:len(l)-1], append(slices.Clone(l), api.Record{}), append(slices.Clone(l), api.Record{Q: true})} {
			if got := Levels(other); slices.Equal(got, want) {
				t.Errorf("%d and %d records: levels %v of both", len(l), len(other), got)
			}
		}
	}
}

// anyRecords are records in which everything is any, whether it may be or not.
func anyRecords(d *uint64, n int) []api.Record {
	l := make([]api.Record, n)
	for i := range l {
		l[i] = anyRecord(d, draw(d, 3) == 0)
	}
	return l
}

func anyRecord(d *uint64, q bool) api.Record {
	return api.Record{
		Code: byte(draw(d, 256)), Address: uint16(draw(d, 65536)), Data: byte(draw(d, 256)), Port: byte(draw(d, 256)),
		Read: draw(d, 2) == 0, Write: draw(d, 2) == 0, Mode: api.Mode(draw(d, 256)), Q: q,
	}
}

// P11.1 to P11.3, P11.5: of records Q alone is looked at: two traces that differ in all but Q, records that may not be among them, are told alike.
func TestQAlone(t *testing.T) {
	d := uint64(5)
	wrong := []api.Record{
		{Code: 4}, {Code: 0xff}, {Port: 8}, {Port: 0xff}, {Mode: 4}, {Mode: 0xff}, {Read: true, Write: true},
		{Code: 9, Port: 9, Mode: 9, Read: true, Write: true, Address: 0xffff, Data: 0xff},
	}
	for _, q := range append(allTraces(8), "..###.#", strings.Repeat("##...#", 40)) {
		want := twin(q)
		for _, c := range wrong {
			l := records(q)
			for i := range l {
				c.Q = q[i] == '#'
				l[i] = c
			}
			if got := tonesOf(l); !got.same(want) {
				t.Fatalf("of %q in records %+v: %v", q, c, got)
			}
		}
		l := records(q)
		for i := range l {
			l[i] = anyRecord(&d, l[i].Q)
		}
		if got := tonesOf(l); !got.same(want) {
			t.Fatalf("of %q in any records: %v", q, got)
		}
	}
}

// The rows are told one by one, till no more are wanted; a second range begins at the front again.
func TestRows(t *testing.T) {
	all := []row{{0, 2, false}, {2, 5, true}, {5, 6, false}, {6, 7, true}}
	told := rows(records("..###.#"))
	for most := range 6 {
		var got []row
		for r := range told {
			if len(got) == most {
				break
			}
			got = append(got, r)
		}
		if want := all[:min(most, 4)]; !slices.Equal(got, want) {
			t.Errorf("%d rows: %v", most, got)
		}
	}
}

// overwrite writes over a list and all the room behind its end, and makes it grow.
func overwrite[T any](l []T, v T) {
	whole := l[:cap(l)]
	for i := range whole {
		whole[i] = v
	}
	l = append(l, v)
	l[0] = v
	_ = append(whole, v)
}

// R5: what is handed in is not changed, the room behind its end neither; what stands in that room is not looked at.
func TestWhatIsHandedIn(t *testing.T) {
	for _, mark := range []bool{false, true} {
		for _, q := range append(allTraces(6), "") {
			whole := append(records(q), api.Record{Q: mark, Data: 0x77}, api.Record{Q: !mark})
			was := slices.Clone(whole)
			l := whole[:len(q)]
			got, want := tonesOf(l), twin(q)
			if !got.same(want) || !slices.Equal(whole, was) {
				t.Fatalf("of %q with room behind it: %v", q, got)
			}
			// Behind the call the list is the caller's again.
			for i := range whole {
				whole[i].Q = !whole[i].Q
			}
			if !got.same(want) {
				t.Fatalf("of %q: what was told has changed with the list", q)
			}
		}
	}
}

// R5, R6: answers are new memory: written over and grown, they change no other answer, nor what was handed in; asked anew, the answer is the same.
func TestAnswers(t *testing.T) {
	d := uint64(6)
	for range 30 {
		l := anyRecords(&d, 1+draw(&d, 90))
		was := slices.Clone(l)
		kept := tonesOf(l)
		want := kept.clone()
		other := tonesOf(l)
		overwrite(other.beeps, api.Beep{From: -9, To: -9})
		overwrite(other.waves, api.Wave{High: -9, Low: -9})
		overwrite(other.levels, -9)
		if !kept.same(want) || !slices.Equal(l, was) {
			t.Fatal("an answer, or the records, have changed with another answer")
		}
		kept.levels = append(kept.levels, 5)
		kept.beeps = append(kept.beeps, api.Beep{})
		kept.waves = append(kept.waves, api.Wave{})
		if again := tonesOf(l); !again.same(want) {
			t.Fatalf("asked anew: %v; want %v", again, want)
		}
	}
}

// P11.1 to P11.4 (T5): a machine that makes Q high and low: a beep is from the S1 of a SEQ up to that of the next REQ, or to a cycle of Reset.
func TestMachine(t *testing.T) {
	rom := make([]byte, 512)
	// SEQ, NOP twice, REQ, NOP; and again: the latch stays set, the ROM stands from 0 on.
	copy(rom, []byte{0x7b, 0xc4, 0xc4, 0x7a, 0xc4, 0x30, 0x00})
	b, e := board.New(2048, rom, nil)
	if e != api.OK {
		t.Fatal(e)
	}
	l, e := b.Run([]api.Span{{Cycles: 2, Clear: true}, {Cycles: 40}, {Cycles: 5, Wait: true}, {Cycles: 1, Clear: true}, {Cycles: 9}})
	if e != api.OK {
		t.Fatal(e)
	}
	// Two of Reset, one of Begin; SEQ's second cycle is the first high one; eight cycles on REQ's second one is low; a round is 15 cycles.
	want := "[{4 12} {19 27} {34 47} {50 57}] [{8 7} {8 7} {13 3} {7 0}] [4 8 7 8 7 13 3 7]"
	got := wantTones(t, l)
	if s := fmt.Sprint(got.beeps, got.waves, got.levels); s != want {
		t.Errorf("a machine's tones: %s; want %s", s, want)
	}
}
