package game

import "vesper/api"

// play is a game that is worked on: the plain one, the order at hand, and what that may ask for.
type play struct {
	api.Game
	api.Order
	api.Feed
	font api.Font
}

// deeds are what the orders do, by their Ops; PC stands behind the order already. What comes to another outcome than Done may leave the game anyhow: it is thrown away.
func deeds() map[api.Op]func(*play) api.Outcome {
	return map[api.Op]func(*play) api.Outcome{
		api.OpClear:     (*play).clear,
		api.OpReturn:    (*play).back,
		api.OpJump:      (*play).jump,
		api.OpCall:      (*play).call,
		api.OpSkipIs:    (*play).skipIs,
		api.OpSkipNot:   (*play).skipNot,
		api.OpSkipSame:  (*play).skipSame,
		api.OpSet:       (*play).set,
		api.OpAdd:       (*play).add,
		api.OpMove:      (*play).move,
		api.OpOr:        (*play).or,
		api.OpAnd:       (*play).and,
		api.OpPlus:      (*play).plus,
		api.OpMinus:     (*play).minus,
		api.OpSkipOther: (*play).skipOther,
		api.OpPoint:     (*play).point,
		api.OpJumpBy:    (*play).jumpBy,
		api.OpRandom:    (*play).random,
		api.OpDraw:      (*play).draw,
		api.OpSkipDown:  (*play).skipDown,
		api.OpSkipUp:    (*play).skipUp,
		api.OpTimer:     (*play).timer,
		api.OpKey:       (*play).key,
		api.OpDelay:     (*play).delay,
		api.OpSound:     (*play).sound,
		api.OpOn:        (*play).on,
		api.OpDigit:     (*play).digit,
		api.OpThree:     (*play).three,
		api.OpStore:     (*play).store,
		api.OpFill:      (*play).fill,
	}
}

func (p *play) vx() byte { return p.V[p.X] }

func (p *play) vy() byte { return p.V[p.Y] }

// digitOfVX is VX's low four bits: the number of a digit, or of a key.
func (p *play) digitOfVX() byte { return p.vx() & 0x0f }
