package cpu

import (
	"vesper/api"
	"vesper/bits"
	"vesper/code"
)

// row is what the sixteen ops of one high four bits do.
type row struct {
	first  func(cycle) api.CPU // in the first execute cycle
	second func(cycle) api.CPU // in the second one, where there is one
	own    func(cycle) byte    // the byte that the processor puts on the bus itself, where code.Bus says that it does
}

func rows() [16]row {
	return [16]row{
		0x0: {first: cycle.loadN},
		0x1: {first: cycle.increase},
		0x2: {first: cycle.decrease},
		0x3: {first: cycle.branch},
		0x4: {first: cycle.loadAdvance},
		0x5: {first: cycle.nothing, own: cycle.accumulator},
		0x6: {first: cycle.exchange},
		0x7: {first: cycle.control, own: cycle.saved},
		0x8: {first: cycle.getLow, own: cycle.lowOfN},
		0x9: {first: cycle.getHigh, own: cycle.highOfN},
		0xa: {first: cycle.putLow, own: cycle.accumulator},
		0xb: {first: cycle.putHigh, own: cycle.accumulator},
		0xc: {first: cycle.longFirst, second: cycle.longSecond},
		0xd: {first: cycle.setP, own: cycle.twiceN},
		0xe: {first: cycle.setX, own: cycle.twiceN},
		0xf: {first: cycle.plainSum},
	}
}

// controls are the ops 70 to 7f, which have little in common.
func controls() [16]func(cycle) api.CPU {
	return [16]func(cycle) api.CPU{
		cycle.giveBack, cycle.disable, cycle.loadXAdvance, cycle.storeBack,
		cycle.carrySum, cycle.carrySum, cycle.carrySum, cycle.carrySum,
		cycle.nothing, cycle.mark, cycle.lowQ, cycle.highQ,
		cycle.carrySum, cycle.carrySum, cycle.carrySum, cycle.carrySum,
	}
}

// carrySums are the sums of the ops 70 to 7f (of 0 to 3 and 8 to b there are none), plainSums those of f0 to ff.
var carrySums = [16]api.Sum{
	0x4: api.SumAddC, 0x5: api.SumFromC, 0x6: api.SumRightC, 0x7: api.SumLessC,
	0xc: api.SumAddC, 0xd: api.SumFromC, 0xe: api.SumLeftC, 0xf: api.SumLessC,
}

var plainSums = [16]api.Sum{
	api.SumLoad, api.SumOr, api.SumAnd, api.SumXor, api.SumAdd, api.SumFrom, api.SumRight, api.SumLess,
	api.SumLoad, api.SumOr, api.SumAnd, api.SumXor, api.SumAdd, api.SumFrom, api.SumLeft, api.SumLess,
}

// n is the op's low four bits.
func (w cycle) n() byte { return w.Op & 15 }

// both is X and P in one byte.
func (w cycle) both() byte { return w.X<<4 | w.P }

func (w cycle) nothing() api.CPU { return w.CPU }

func (w cycle) loadN() api.CPU {
	if w.Op != idl {
		w.D = w.Data
	}
	return w.CPU
}

func (w cycle) loadAdvance() api.CPU {
	w.D = w.Data
	w.R[w.n()]++
	return w.CPU
}

func (w cycle) increase() api.CPU {
	w.R[w.n()]++
	return w.CPU
}

func (w cycle) decrease() api.CPU {
	w.R[w.n()]--
	return w.CPU
}

// exchange is IRX, OUT, NUL, INP. What goes out and in is on the bus without the processor's help.
func (w cycle) exchange() api.CPU {
	switch n := w.n(); {
	case n < 8:
		w.R[w.X]++
	case n > 8:
		w.D = w.Data
	}
	return w.CPU
}

func (w cycle) getLow() api.CPU {
	w.D = w.lowOfN()
	return w.CPU
}

func (w cycle) getHigh() api.CPU {
	w.D = w.highOfN()
	return w.CPU
}

func (w cycle) putLow() api.CPU {
	w.R[w.n()] = bits.Word(w.highOfN(), w.D)
	return w.CPU
}

func (w cycle) putHigh() api.CPU {
	w.R[w.n()] = bits.Word(w.D, w.lowOfN())
	return w.CPU
}

func (w cycle) setP() api.CPU {
	w.P = w.n()
	return w.CPU
}

func (w cycle) setX() api.CPU {
	w.X = w.n()
	return w.CPU
}

func (w cycle) control() api.CPU { return controls()[w.n()](w) }

// giveBack is RET, and but for IE it is DIS, too.
func (w cycle) giveBack() api.CPU {
	w.R[w.X]++ // ahead of X becoming another one
	w.X, w.P = w.Data>>4, w.Data&15
	w.IE = true
	return w.CPU
}

func (w cycle) disable() api.CPU {
	c := w.giveBack()
	c.IE = false
	return c
}

func (w cycle) loadXAdvance() api.CPU {
	w.D = w.Data
	w.R[w.X]++
	return w.CPU
}

func (w cycle) storeBack() api.CPU {
	w.R[w.X]--
	return w.CPU
}

func (w cycle) mark() api.CPU {
	w.T = w.both()
	w.X = w.P
	w.R[2]--
	return w.CPU
}

func (w cycle) lowQ() api.CPU {
	w.Q = false
	return w.CPU
}

func (w cycle) highQ() api.CPU {
	w.Q = true
	return w.CPU
}

func (w cycle) carrySum() api.CPU { return w.sum(carrySums[w.n()]) }

func (w cycle) plainSum() api.CPU { return w.sum(plainSums[w.n()]) }

// sum does a sum of the byte that is read, of 0 where none is.
func (w cycle) sum(s api.Sum) api.CPU {
	b := byte(0)
	if code.Bus(w.Op, false).Read {
		b = w.Data
	}
	w.D, w.DF = bits.Do(s, w.D, b, w.DF)
	if code.Info(w.Op).Form == api.FormByte {
		w.R[w.P]++
	}
	return w.CPU
}

// The bytes that the processor puts on the bus itself.

func (w cycle) accumulator() byte { return w.D }

func (w cycle) lowOfN() byte { return bits.Low(w.R[w.n()]) }

func (w cycle) highOfN() byte { return bits.High(w.R[w.n()]) }

// twiceN is N in both halves of a byte.
func (w cycle) twiceN() byte { return w.n()<<4 | w.n() }

// saved is what STXD, SAV and MARK write.
func (w cycle) saved() byte {
	switch w.Op {
	case sav:
		return w.T
	case mark:
		return w.both()
	}
	return w.D
}
