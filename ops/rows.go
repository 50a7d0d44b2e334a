package ops

import "vesper/api"

// field is a number that an order has beside its Op: what stands ahead of its digits in a line, how many these are, how many bits of a word stand below them, how an order is asked for it, and the order that has it.
type field struct {
	lead   string
	digits int
	below  int
	of     func(o api.Order) uint16
	with   func(o api.Order, v uint16) api.Order
}

// mask is the bits of a word in which the field stands.
func (f field) mask() uint16 { return (1<<(4*f.digits) - 1) << f.below }

// row is one of the orders: its word with noughts where its fields stand, the first word of its line, and its fields.
type row struct {
	op     api.Op
	word   uint16
	first  string
	fields []field
}

// rows are all orders. A word's order is that of the first row which takes it: clear and return stand ahead of machine, as that would take their words, too.
func rows() []row {
	x := field{"v", 1, 8, func(o api.Order) uint16 { return uint16(o.X) }, func(o api.Order, v uint16) api.Order { o.X = byte(v); return o }}
	y := field{"v", 1, 4, func(o api.Order) uint16 { return uint16(o.Y) }, func(o api.Order, v uint16) api.Order { o.Y = byte(v); return o }}
	n := field{"", 1, 0, func(o api.Order) uint16 { return uint16(o.N) }, func(o api.Order, v uint16) api.Order { o.N = byte(v); return o }}
	nn := field{"", 2, 0, func(o api.Order) uint16 { return uint16(o.Byte) }, func(o api.Order, v uint16) api.Order { o.Byte = byte(v); return o }}
	nnn := field{"", 3, 0, func(o api.Order) uint16 { return o.At }, func(o api.Order, v uint16) api.Order { o.At = v; return o }}
	address, register, pair, value, picture := []field{nnn}, []field{x}, []field{x, y}, []field{x, nn}, []field{x, y, n}
	return []row{
		{api.OpClear, 0x00e0, "clear", nil},
		{api.OpReturn, 0x00ee, "return", nil},
		{api.OpMachine, 0x0000, "machine", address},
		{api.OpJump, 0x1000, "jump", address},
		{api.OpCall, 0x2000, "call", address},
		{api.OpSkipIs, 0x3000, "skip-is", value},
		{api.OpSkipNot, 0x4000, "skip-not", value},
		{api.OpSkipSame, 0x5000, "skip-same", pair},
		{api.OpSet, 0x6000, "set", value},
		{api.OpAdd, 0x7000, "add", value},
		{api.OpMove, 0x8000, "move", pair},
		{api.OpOr, 0x8001, "or", pair},
		{api.OpAnd, 0x8002, "and", pair},
		{api.OpPlus, 0x8004, "plus", pair},
		{api.OpMinus, 0x8005, "minus", pair},
		{api.OpSkipOther, 0x9000, "skip-other", pair},
		{api.OpPoint, 0xa000, "point", address},
		{api.OpJumpBy, 0xb000, "jump-by", address},
		{api.OpRandom, 0xc000, "random", value},
		{api.OpDraw, 0xd000, "draw", picture},
		{api.OpSkipDown, 0xe09e, "skip-down", register},
		{api.OpSkipUp, 0xe0a1, "skip-up", register},
		{api.OpTimer, 0xf007, "timer", register},
		{api.OpKey, 0xf00a, "key", register},
		{api.OpDelay, 0xf015, "delay", register},
		{api.OpSound, 0xf018, "sound", register},
		{api.OpOn, 0xf01e, "on", register},
		{api.OpDigit, 0xf029, "digit", register},
		{api.OpThree, 0xf033, "three", register},
		{api.OpStore, 0xf055, "store", register},
		{api.OpFill, 0xf065, "fill", register},
	}
}

// find is the first row of which that is so.
func find(so func(r row) bool) (row, bool) {
	for _, r := range rows() {
		if so(r) {
			return r, true
		}
	}
	return row{}, false
}

// takes tells whether a word is the row's, whatever stands in its fields.
func (r row) takes(w uint16) bool {
	for _, f := range r.fields {
		w &^= f.mask()
	}
	return w == r.word
}
