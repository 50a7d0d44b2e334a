package game

import "vesper/api"

func (p *play) jump() api.Outcome { return p.leadTo(p.At) }

func (p *play) jumpBy() api.Outcome { return p.leadTo(p.At + uint16(p.V[0])) }

func (p *play) leadTo(a uint16) api.Outcome {
	p.PC = a
	return api.Done
}

func (p *play) call() api.Outcome {
	if len(p.Stack) == api.MaxCalls {
		return api.Deep
	}
	p.Stack = append(p.Stack, p.PC)
	return p.leadTo(p.At)
}

func (p *play) back() api.Outcome {
	if len(p.Stack) == 0 {
		return api.Empty
	}
	last := len(p.Stack) - 1
	a := p.Stack[last]
	p.Stack = p.Stack[:last]
	return p.leadTo(a)
}

func (p *play) skipIs() api.Outcome { return p.skipIf(p.vx() == p.Byte) }

func (p *play) skipNot() api.Outcome { return p.skipIf(p.vx() != p.Byte) }

func (p *play) skipSame() api.Outcome { return p.skipIf(p.vx() == p.vy()) }

func (p *play) skipOther() api.Outcome { return p.skipIf(p.vx() != p.vy()) }

func (p *play) skipDown() api.Outcome { return p.skipIf(p.down()) }

func (p *play) skipUp() api.Outcome { return p.skipIf(!p.down()) }

// down tells whether the key that VX names is down.
func (p *play) down() bool { return p.Keys>>p.digitOfVX()&1 != 0 }

func (p *play) skipIf(yes bool) api.Outcome {
	if yes {
		p.PC += orderSize
	}
	return api.Done
}
