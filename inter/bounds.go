package inter

import "vesper/api"

// rest is how many cycles the refresh routine takes, at most, from its interrupt on. It comes once in a frame, and leaves 1826 cycles of it.
const rest = 1842

// bounds are, by an order's kind, in how many cycles it is done: those that the interpreter takes itself, at most, and those of the interrupts that may come meanwhile: one, or two, if it takes more than a frame leaves. Of OpKey: a round through all keys, and what is done when the key has gone up.
var bounds = [api.OpFill + 1]int{
	api.OpClear:     2652 + 2*rest,
	api.OpReturn:    102 + rest,
	api.OpJump:      82 + rest,
	api.OpCall:      102 + rest,
	api.OpSkipIs:    82 + rest,
	api.OpSkipNot:   82 + rest,
	api.OpSkipSame:  86 + rest,
	api.OpSet:       76 + rest,
	api.OpAdd:       78 + rest,
	api.OpMove:      90 + rest,
	api.OpOr:        112 + rest,
	api.OpAnd:       112 + rest,
	api.OpPlus:      112 + rest,
	api.OpMinus:     112 + rest,
	api.OpSkipOther: 86 + rest,
	api.OpPoint:     80 + rest,
	api.OpJumpBy:    92 + rest,
	api.OpRandom:    96 + rest,
	api.OpDraw:      3334 + 2*rest,
	api.OpSkipDown:  86 + rest,
	api.OpSkipUp:    90 + rest,
	api.OpTimer:     82 + rest,
	api.OpKey:       282 + rest,
	api.OpDelay:     90 + rest,
	api.OpSound:     94 + rest,
	api.OpOn:        106 + rest,
	api.OpDigit:     120 + rest,
	api.OpThree:     424 + rest,
	api.OpStore:     530 + rest,
	api.OpFill:      376 + rest,
}
