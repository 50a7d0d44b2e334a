package view

import (
	"iter"

	"vesper/api"
	"vesper/board"
	"vesper/inter"
	"vesper/vip"
)

// beats goes through a script that has been played from there on, and has been seen as these records: each beat ahead of one of its cycles, and how the machine stood then.
func (p player) beats(from api.Board, l []api.Span, seen []api.Record) iter.Seq2[api.Beat, api.Board] {
	return func(yield func(api.Beat, api.Board) bool) {
		// How a VIP stands may be, so the board is made.
		again, _ := board.From(from)
		cycle := 0
		for _, s := range l {
			for range s.Cycles {
				if mayBeat(seen, cycle) {
					stood := again.State()
					if beat, is := p.beat(stood, cycle); is && !yield(beat, stood) {
						return
					}
				}
				again.Step(s)
				cycle++
			}
		}
	}
}

// mayBeat is false of a cycle whose records tell that there is no beat ahead of it. To ask a machine how it stands takes the time of many cycles.
func mayBeat(seen []api.Record, cycle int) bool {
	r := seen[cycle]
	if r.Mode == api.Reset || r.Mode == api.Load {
		// A fetch that was due is thrown away, so it is not to be seen; behind that none is due.
		return cycle == 0 || seen[cycle-1].Mode != r.Mode
	}
	return r.Code == api.S0 && r.Address == inter.Fetch()
}

// beat is the one of a machine that stands so behind so many cycles; false, if it stands for no game.
func (p player) beat(stood api.Board, cycle int) (api.Beat, bool) {
	g, is := p.game(stood)
	if !is {
		return api.Beat{}, false
	}
	return api.Beat{Cycle: uint64(cycle), Game: g}, true
}

// jumping is the machine that jumps on the spot, as it stands at the beat of that number.
func (p player) jumping(number int) api.Board {
	// A program of two bytes fits, and makes a machine; a script of one frame may be.
	c, _ := vip.Game([]byte{0x12, 0x00})
	v, _ := vip.New(c)
	l := []api.Span{{Cycles: api.LineCycles * api.Lines}}
	for {
		ahead := v.State()
		film, _ := v.Play(l)
		for _, stood := range p.beats(ahead, l, film.Records) {
			if number == 0 {
				return stood
			}
			number--
		}
	}
}
