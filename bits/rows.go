package bits

import "vesper/api"

// row is one sum. Its functions take d, b and what DF is worth as true numbers, and value answers a true number: a carry or a borrow is lost as soon as bytes wrap round.
type row struct {
	value func(d, b, c int) int
	flag  func(d, b, c int) bool
}

func rows() [api.SumLeftC + 1]row {
	return [...]row{
		api.SumLoad:   {func(d, b, c int) int { return b }, kept},
		api.SumOr:     {func(d, b, c int) int { return d | b }, kept},
		api.SumAnd:    {func(d, b, c int) int { return d & b }, kept},
		api.SumXor:    {func(d, b, c int) int { return d ^ b }, kept},
		api.SumAdd:    {func(d, b, c int) int { return d + b }, func(d, b, c int) bool { return d+b > 255 }},
		api.SumAddC:   {func(d, b, c int) int { return d + b + c }, func(d, b, c int) bool { return d+b+c > 255 }},
		api.SumFrom:   {func(d, b, c int) int { return b - d }, func(d, b, c int) bool { return b >= d }},
		api.SumFromC:  {func(d, b, c int) int { return b - d - 1 + c }, func(d, b, c int) bool { return b+c > d }},
		api.SumLess:   {func(d, b, c int) int { return d - b }, func(d, b, c int) bool { return d >= b }},
		api.SumLessC:  {func(d, b, c int) int { return d - b - 1 + c }, func(d, b, c int) bool { return d+c > b }},
		api.SumRight:  {func(d, b, c int) int { return d >> 1 }, lowest},
		api.SumRightC: {func(d, b, c int) int { return d>>1 | c<<7 }, lowest},
		api.SumLeft:   {func(d, b, c int) int { return d << 1 }, highest},
		api.SumLeftC:  {func(d, b, c int) int { return d<<1 | c }, highest},
	}
}

func kept(d, b, c int) bool { return c == 1 }

func lowest(d, b, c int) bool { return d&1 == 1 }

func highest(d, b, c int) bool { return d&0x80 != 0 }
