package view

import "vesper/api"

// The registers that have something of a game in them.
const (
	stackRegister  = 2
	nextRegister   = 5
	timersRegister = 8
	pointRegister  = 10
)

// returnSize is how many bytes a return address takes.
const returnSize = 2

// callsAbove is how many calls lie above where R2 is; false, if there is no such stack.
func callsAbove(r2 uint16) (int, bool) {
	size := api.StackAt - int(r2)
	return size / returnSize, size >= 0 && size <= returnSize*api.MaxCalls && size%returnSize == 0
}

// read is the game whose things a machine has in their places, with so many calls.
func read(b api.Board, calls int) api.Game {
	r := b.CPU.R
	return api.Game{
		V:      [16]byte(listed(b.RAM, api.VarsAt, 1, 16, byteAt)),
		I:      r[pointRegister],
		PC:     r[nextRegister],
		Stack:  listed(b.RAM, api.StackAt, -returnSize, calls, wordUpTo),
		Delay:  byte(r[timersRegister] >> 8),
		Sound:  byte(r[timersRegister]),
		Page:   listed(b.RAM, api.PageAt, 1, api.PageSize, byteAt),
		Memory: listed(b.RAM, api.ProgramAt, 1, api.ProgramSize, byteAt),
	}
}

// listed are so many things that lie in memory from an address on, each one step from the one ahead of it, as one of them is told.
func listed[T any](ram []byte, at, step, many int, told func(ram []byte, at int) T) []T {
	l := make([]T, many)
	for k := range l {
		l[k] = told(ram, at+k*step)
	}
	return l
}

func byteAt(ram []byte, at int) byte { return ram[at] }

// wordUpTo is the word whose low byte lies there, and whose high one lies ahead of it: the stack grows downward.
func wordUpTo(ram []byte, at int) uint16 { return uint16(ram[at-1])<<8 | uint16(ram[at]) }

// laid is a machine that has a game's things in their places, and all else as it had it.
func laid(b api.Board, g api.Game) api.Board {
	r := &b.CPU.R
	r[pointRegister], r[nextRegister] = g.I, g.PC
	r[timersRegister] = uint16(g.Delay)<<8 | uint16(g.Sound)
	r[stackRegister] = uint16(api.StackAt - returnSize*len(g.Stack))
	for k, back := range g.Stack {
		at := api.StackAt - returnSize*k
		b.RAM[at-1], b.RAM[at] = byte(back>>8), byte(back)
	}
	copy(b.RAM[api.VarsAt:], g.V[:])
	copy(b.RAM[api.PageAt:], g.Page)
	copy(b.RAM[api.ProgramAt:], g.Memory)
	return b
}
