package tone

import (
	"slices"
	"strings"
	"testing"

	"vesper/api"
)

// draw is a number below n, of a fixed row of numbers.
func draw(d *uint64, n int) int {
	*d = *d*6364136223846793005 + 1442695040888963407
	return int(*d >> 33 % uint64(n))
}

// records is a trace whose Q is high where a # stands.
func records(q string) []api.Record {
	l := make([]api.Record, len(q))
	for i := range l {
		l[i].Q = q[i] == '#'
	}
	return l
}

// drawing is a trace's Q as a text: # is high, . is low.
func drawing(l []api.Record) string {
	var b strings.Builder
	for _, c := range l {
		if c.Q {
			b.WriteByte('#')
		} else {
			b.WriteByte('.')
		}
	}
	return b.String()
}

// tones is all that the package tells of a trace.
type tones struct {
	beeps  []api.Beep
	waves  []api.Wave
	levels []int
}

func tonesOf(l []api.Record) tones {
	return tones{Beeps(l), Waves(l), Levels(l)}
}

func (a tones) same(b tones) bool {
	return slices.Equal(a.beeps, b.beeps) && slices.Equal(a.waves, b.waves) && slices.Equal(a.levels, b.levels)
}

func (a tones) clone() tones {
	return tones{slices.Clone(a.beeps), slices.Clone(a.waves), slices.Clone(a.levels)}
}

// twin is the chapter's words, out of a drawing: edges are looked for, no row is gone through.
func twin(q string) tones {
	var t tones
	for at := 0; ; {
		from := strings.IndexByte(q[at:], '#')
		if from < 0 {
			break
		}
		from += at
		to := len(q)
		if k := strings.IndexByte(q[from:], '.'); k >= 0 {
			to = from + k
		}
		next := len(q)
		if k := strings.IndexByte(q[to:], '#'); k >= 0 {
			next = to + k
		}
		t.beeps = append(t.beeps, api.Beep{From: from, To: to})
		t.waves = append(t.waves, api.Wave{High: to - from, Low: next - to})
		at = next
	}
	if q == "" {
		return t
	}
	edges := []int{0}
	if q[0] == '#' {
		edges = append(edges, 0)
	}
	for i := 1; i < len(q); i++ {
		if q[i] != q[i-1] {
			edges = append(edges, i)
		}
	}
	edges = append(edges, len(q))
	for i, to := range edges[1:] {
		t.levels = append(t.levels, to-edges[i])
	}
	return t
}

// wantTones holds what is told of a trace against the twin, and against what follows of it.
func wantTones(t *testing.T, l []api.Record) tones {
	t.Helper()
	q := drawing(l)
	got, want := tonesOf(l), twin(q)
	if !got.same(want) {
		t.Fatalf("of %.80s: %.300v; want %.300v", q, got, want)
	}
	wantRising(t, q, got.beeps)
	wantSums(t, q, got)
	if back := fromLevels(got.levels); back != q {
		t.Fatalf("the levels of %.80s are those of %.80s", q, back)
	}
	return got
}

// wantRising: beeps rise and do not touch; just the records within one are high.
func wantRising(t *testing.T, q string, l []api.Beep) {
	t.Helper()
	within := []byte(strings.Repeat(".", len(q)))
	for i, b := range l {
		if b.From >= b.To || i > 0 && b.From <= l[i-1].To {
			t.Fatalf("of %.80s: beeps %.300v", q, l)
		}
		for k := b.From; k < b.To; k++ {
			within[k] = '#'
		}
	}
	if string(within) != q {
		t.Fatalf("of %.80s: within beeps are %.80s", q, within)
	}
}

// wantSums: the sums of levels and records, beeps and waves.
func wantSums(t *testing.T, q string, got tones) {
	t.Helper()
	sum := 0
	for i, n := range got.levels {
		if n < 0 || i > 0 && n == 0 {
			t.Fatalf("of %.80s: levels %.300v", q, got.levels)
		}
		sum += n
	}
	if sum != len(q) {
		t.Fatalf("of %.80s: the levels are %d records of %d", q, sum, len(q))
	}
	if len(got.waves) != len(got.beeps) {
		t.Fatalf("of %.80s: %d waves, %d beeps", q, len(got.waves), len(got.beeps))
	}
	sum = 0
	for i, w := range got.waves {
		if b := got.beeps[i]; w.High != b.To-b.From || w.Low < 0 || w.Low == 0 && i+1 < len(got.waves) {
			t.Fatalf("of %.80s: wave %d is %v, its beep %v", q, i, w, b)
		}
		sum += w.High + w.Low
	}
	if len(got.beeps) > 0 && sum != len(q)-got.beeps[0].From {
		t.Fatalf("of %.80s: the waves are %d records", q, sum)
	}
}

// fromLevels is the drawing that has such levels.
func fromLevels(l []int) string {
	var b strings.Builder
	for i, n := range l {
		b.WriteString(strings.Repeat(".#"[i%2:i%2+1], n))
	}
	return b.String()
}
