package view

import (
	"bytes"

	"vesper/api"
	"vesper/inter"
	"vesper/rom"
)

// player is the bytes that every machine has that stands for a game: the interpreter's and the monitor's. They are put together anew for each call of this package, and once.
type player struct {
	inter []byte
	rom   []byte
}

func newPlayer() player { return player{inter: inter.Bytes(), rom: rom.Bytes()} }

// isIn tells whether a machine has these bytes in their places.
func (p player) isIn(b api.Board) bool {
	return len(b.RAM) == api.InterRAM && bytes.Equal(b.RAM[:api.InterSize], p.inter) && bytes.Equal(b.ROM, p.rom)
}

// fetches tells whether a machine, of those that may be, fetches from the fetch loop's address, out of RAM, in the cycle that comes.
func fetches(b api.Board) bool {
	c := b.CPU
	return c.Phase == api.Fetch && c.R[c.P] == inter.Fetch() && !b.Latch
}

// mayStand is false of a machine, of those that may be, that stands for no game, whatever bytes it has.
func mayStand(b api.Board) bool {
	_, is := callsAbove(b.CPU.R[stackRegister])
	return is && fetches(b) && len(b.RAM) == api.InterRAM
}

// game is what a machine, of those that may be, stands for; false, if that is no game.
func (p player) game(b api.Board) (api.Game, bool) {
	if !mayStand(b) || !p.isIn(b) {
		return api.Game{}, false
	}
	calls, _ := callsAbove(b.CPU.R[stackRegister])
	return read(b, calls), true
}
