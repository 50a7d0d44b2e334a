package game

import "vesper/api"

// flag is the number of VF.
const flag = 15

func (p *play) set() api.Outcome { return p.take(p.Byte) }

func (p *play) add() api.Outcome { return p.take(p.vx() + p.Byte) }

func (p *play) move() api.Outcome { return p.take(p.vy()) }

func (p *play) random() api.Outcome { return p.take(p.Random & p.Byte) }

func (p *play) timer() api.Outcome { return p.take(p.Delay) }

func (p *play) key() api.Outcome {
	if p.Key < 0 {
		return api.Waits
	}
	return p.take(byte(p.Key))
}

func (p *play) or() api.Outcome { return p.takeWith(p.vx()|p.vy(), false) }

func (p *play) and() api.Outcome { return p.takeWith(p.vx()&p.vy(), false) }

func (p *play) plus() api.Outcome {
	sum := p.vx() + p.vy()
	return p.takeWith(sum, sum < p.vx())
}

func (p *play) minus() api.Outcome {
	return p.takeWith(p.vx()-p.vy(), p.vx() >= p.vy())
}

// take lays a byte into VX.
func (p *play) take(b byte) api.Outcome {
	p.V[p.X] = b
	return api.Done
}

// takeWith lays a byte into VX, and only then the flag into VF, which may be VX.
func (p *play) takeWith(b byte, yes bool) api.Outcome {
	p.take(b)
	return p.tell(yes)
}

// tell lays a flag into VF.
func (p *play) tell(yes bool) api.Outcome {
	p.V[flag] = 0
	if yes {
		p.V[flag] = 1
	}
	return api.Done
}

func (p *play) delay() api.Outcome {
	p.Delay = p.vx()
	return api.Done
}

func (p *play) sound() api.Outcome {
	p.Sound = p.vx()
	return api.Done
}
