package vip

import (
	"reflect"
	"slices"
	"testing"

	"vesper/api"
	"vesper/board"
)

// nones are machines that no call has made.
func nones() map[string]*VIP {
	return map[string]*VIP{"nil": nil, "noughts": {}, "of a board of noughts": {Board: &board.Board{}}}
}

// P22.3, P22.4 (R2): a nil machine at each call: ErrNil ahead of all other errors, noughts, nil. So is one that no call has made; none panics.
func TestNil(t *testing.T) {
	for _, what := range []string{"nil", "noughts"} {
		v := nones()[what]
		scripts := wrongScripts()
		scripts["none"] = nil
		scripts["an empty one"] = []api.Span{}
		scripts["a good one"] = []api.Span{{Cycles: 9}}
		for name, l := range scripts {
			if f, e := v.Play(l); e != api.ErrNil || !isZeroFilm(f) {
				t.Errorf("%s: Play of %s: %s, %d", what, name, briefFilm(f), e)
			}
		}
		if m := v.State(); !sameBoard(m, api.Board{}) || m.RAM != nil || m.ROM != nil {
			t.Errorf("%s: State: %s", what, brief(m))
		}
		if b, e := v.Save(); len(b) != 0 || e != api.ErrNil {
			t.Errorf("%s: Save: %d bytes, %d", what, len(b), e)
		}
		if w := v.Clone(); w != nil {
			t.Errorf("%s: Clone: %v", what, w)
		}
	}
	v := nones()["of a board of noughts"]
	if f, e := v.Play([]api.Span{{Cycles: 9}}); e == api.OK || !isZeroFilm(f) {
		t.Errorf("a board of noughts: Play: %s, %d", briefFilm(f), e)
	}
	if b, e := v.Save(); len(b) != 0 || e == api.OK {
		t.Errorf("a board of noughts: Save: %d bytes, %d", len(b), e)
	}
	if w := v.Clone(); !sameBoard(w.State(), api.Board{}) || !sameBoard(v.State(), api.Board{}) {
		t.Error("a board of noughts: State")
	}
}

// The chapter's calls of a machine are all that it has: what a board has beside them would be asked of a nil one, too.
func TestCallsOfAVIP(t *testing.T) {
	var names []string
	of := reflect.TypeFor[*VIP]()
	for k := range of.NumMethod() {
		names = append(names, of.Method(k).Name)
	}
	if want := []string{"Clone", "Play", "Save", "State"}; !slices.Equal(names, want) {
		t.Errorf("calls %v; want %v", names, want)
	}
}
