package game

import (
	"vesper/api"
	"vesper/sprite"
)

func (p *play) clear() api.Outcome {
	clear(p.Page)
	return api.Done
}

func (p *play) point() api.Outcome { return p.pointTo(p.At) }

func (p *play) on() api.Outcome { return p.pointTo(p.I + uint16(p.vx())) }

func (p *play) digit() api.Outcome { return p.pointTo(p.font.At[p.digitOfVX()]) }

func (p *play) pointTo(a uint16) api.Outcome {
	p.I = a
	return api.Done
}

func (p *play) draw() api.Outcome {
	rows, there := p.read(int(p.N))
	if !there {
		return api.Outside
	}
	// Draw itself takes the place modulo the page's sides; it refuses no page of a game that may be, and never 15 rows.
	page, gone, _ := sprite.Draw(p.Page, p.vx(), p.vy(), rows)
	p.Page = page
	return p.tell(gone)
}

func (p *play) three() api.Outcome {
	b := p.vx()
	if !p.write(b/100, b/10%10, b%10) {
		return api.Outside
	}
	return api.Done
}

func (p *play) store() api.Outcome {
	if !p.write(p.V[:p.count()]...) {
		return api.Outside
	}
	return p.pointTo(p.I + uint16(p.count()))
}

func (p *play) fill() api.Outcome {
	b, there := p.read(p.count())
	if !there {
		return api.Outside
	}
	copy(p.V[:], b)
	return p.pointTo(p.I + uint16(p.count()))
}

// count is how many V0 to VX are.
func (p *play) count() int { return int(p.X) + 1 }

// read is so many bytes from I on; false, if one of them lies outside.
func (p *play) read(count int) ([]byte, bool) {
	b := make([]byte, count)
	for k := range b {
		one, there := p.byteAt(int(p.I) + k)
		if !there {
			return nil, false
		}
		b[k] = one
	}
	return b, true
}

// byteAt is the byte at an address; false: it lies outside.
func (p *play) byteAt(a int) (byte, bool) {
	if at, within := place(a); within {
		return p.Memory[at], true
	}
	at := a - int(p.font.From)
	if at < 0 || at >= len(p.font.Bytes) {
		return 0, false
	}
	return p.font.Bytes[at], true
}

// write lays bytes into the memory from I on; false, if there is no room for all of them.
func (p *play) write(b ...byte) bool {
	at, within := places(p.I, len(b))
	if within {
		copy(p.Memory[at:], b)
	}
	return within
}

// places is where the first of so many bytes from an address on lies in the memory; false, if one of them does not.
func places(a uint16, count int) (int, bool) {
	first, begins := place(int(a))
	_, ends := place(int(a) + count - 1)
	if !begins || !ends {
		return 0, false
	}
	return first, true
}

// place is where an address lies in the memory; false, if it does not.
func place(a int) (int, bool) {
	if a < api.ProgramAt || a >= api.ProgramAt+api.ProgramSize {
		return 0, false
	}
	return a - api.ProgramAt, true
}
