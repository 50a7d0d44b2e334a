package cpu

import (
	"vesper/api"
	"vesper/bits"
	"vesper/code"
)

// The ops 34 to 37 and 3c to 3f look at EF1 to EF4, in this order.
const firstFlag = 4

// upper is the bit of an op that turns a condition about.
const upper = 8

// holds is what the lower eight branches ask, by the op's low three bits.
func (w cycle) holds(condition byte) bool {
	switch condition {
	case 0:
		return true
	case 1:
		return w.Q
	case 2:
		return w.D == 0
	case 3:
		return w.DF
	}
	return w.EF[condition-firstFlag]
}

// branches is for short and long branches alike.
func (w cycle) branches() bool {
	yes := w.holds(w.Op & 7)
	if w.Op&upper != 0 {
		return !yes
	}
	return yes
}

// skips is for the long skips, and for NOP, which never does; the upper eight of these skip where a condition holds, the lower ones where it does not.
func (w cycle) skips() bool {
	switch n := w.n(); n {
	case 0x4:
		return false
	case 0x8:
		return true
	case 0xc:
		return w.IE
	default:
		return w.holds(n&3) == (n&upper != 0)
	}
}

func (w cycle) branch() api.CPU {
	r := &w.R[w.P]
	if w.branches() {
		*r = bits.Word(bits.High(*r), w.Data)
	} else {
		*r++
	}
	return w.CPU
}

// jumps says whether a long instruction is a branch; the others skip.
func (w cycle) jumps() bool { return code.Info(w.Op).Form == api.FormLong }

func (w cycle) longFirst() api.CPU {
	if !w.jumps() {
		return w.skip()
	}
	w.B = w.Data
	w.R[w.P]++
	return w.CPU
}

func (w cycle) longSecond() api.CPU {
	c := w.CPU
	if w.jumps() {
		c = w.jump()
	} else {
		c = w.skip()
	}
	c.B = 0
	return c
}

func (w cycle) skip() api.CPU {
	if w.skips() {
		w.R[w.P]++
	}
	return w.CPU
}

func (w cycle) jump() api.CPU {
	if w.branches() {
		w.R[w.P] = bits.Word(w.B, w.Data)
	} else {
		w.R[w.P]++
	}
	return w.CPU
}
