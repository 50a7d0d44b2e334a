package asm

import (
	"slices"
	"strings"

	"vesper/api"
)

// use is what lies at an address.
type use uint8

const (
	free use = iota
	codeByte
	dataByte
)

// laidPiece is a piece and the place that it was laid from.
type laidPiece struct {
	piece piece
	at    int
}

// sheet is what a source is laid on.
type sheet struct {
	place  int
	laid   []laidPiece
	uses   []use
	bytes  []byte
	labels map[string]int
}

func newSheet() *sheet {
	return &sheet{uses: make([]use, addresses), bytes: make([]byte, addresses), labels: map[string]int{}}
}

// lay lays a piece from the place on; its bytes are not yet known.
func (s *sheet) lay(p piece) api.Errno {
	at := s.place
	if e := p.take(s); e != api.OK {
		return e
	}
	s.laid = append(s.laid, laidPiece{p, at})
	return api.OK
}

// name calls the place so.
func (s *sheet) name(name string) api.Errno {
	if s.place > mostAddress {
		return api.ErrAsmRange
	}
	if _, twice := s.labels[name]; twice {
		return api.ErrAsmTwice
	}
	s.labels[name] = s.place
	return api.OK
}

// claim takes up so many addresses, and goes on behind them.
func (s *sheet) claim(size int, u use) api.Errno {
	end := s.place + size
	if end > addresses {
		return api.ErrAsmRange
	}
	room := s.uses[s.place:end]
	for _, taken := range room {
		if taken != free {
			return api.ErrAsmOverlap
		}
	}
	for k := range room {
		room[k] = u
	}
	s.place = end
	return api.OK
}

// fill writes the bytes of a piece, now that all labels are known.
func (s *sheet) fill(p laidPiece) api.Errno {
	target, e := s.target(p)
	if e != api.OK {
		return e
	}
	copy(s.bytes[p.at:], p.piece.bytes(target))
	return api.OK
}

// target is the address of the label that a piece asks for; 0 of one that asks for none.
func (s *sheet) target(p laidPiece) (int, api.Errno) {
	switch q := p.piece.(type) {
	case address:
		return s.find(q.label)
	case labelled:
		target, e := s.find(q.label)
		if e == api.OK && q.leaves(p.at, target) {
			return 0, api.ErrAsmPage
		}
		return target, e
	}
	return 0, api.OK
}

func (s *sheet) find(name string) (int, api.Errno) {
	target, found := s.labels[name]
	if !found {
		return 0, api.ErrAsmNone
	}
	return target, api.OK
}

// object is what has been laid.
func (s *sheet) object() api.Object {
	marks := s.marks()
	return api.Object{Blocks: s.blocks(marks), Marks: marks, Labels: s.sorted()}
}

// marks are the rows of addresses at which the same lies.
func (s *sheet) marks() []api.Mark {
	var marks []api.Mark
	for at := 0; at < addresses; {
		end := at + 1
		for end < addresses && s.uses[end] == s.uses[at] {
			end++
		}
		if s.uses[at] != free {
			marks = append(marks, api.Mark{At: at, Bytes: end - at, Code: s.uses[at] == codeByte})
		}
		at = end
	}
	return marks
}

// blocks are the bytes of the marks; marks that touch are of one block.
func (s *sheet) blocks(marks []api.Mark) []api.Block {
	var blocks []api.Block
	end := -1
	for _, m := range marks {
		if m.At != end {
			blocks = append(blocks, api.Block{At: m.At})
		}
		end = m.At + m.Bytes
		last := &blocks[len(blocks)-1]
		last.Bytes = append(last.Bytes, s.bytes[m.At:end]...)
	}
	return blocks
}

// sorted is all labels, in an object's order.
func (s *sheet) sorted() []api.Label {
	var labels []api.Label
	for name, at := range s.labels {
		// A name in memory of its own: a piece of a source's text would keep all of that.
		labels = append(labels, api.Label{Name: strings.Clone(name), At: at})
	}
	slices.SortFunc(labels, order)
	return labels
}
