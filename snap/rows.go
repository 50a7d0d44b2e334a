package snap

import "vesper/api"

// signature is what the bytes of each machine begin with.
const signature = "VSP1"

const registers = 16

// Yes and no as bytes.
const (
	no  byte = 0
	yes byte = 1
)

// row is a piece of the form. Its functions tell how many bytes it has (of RAM this hangs on what stands ahead of it), write it behind other bytes, and read it out of its own bytes into a machine; read answers false of bytes that never stand there.
type row struct {
	size  func(m api.Board) int
	write func(to []byte, m api.Board) []byte
	read  func(m *api.Board, from []byte) bool
}

// rows are the form, all of it but the sum.
func rows() []row {
	l := []row{opening()}
	for k := range registers {
		l = append(l, number(func(m api.Board) uint16 { return m.CPU.R[k] }, func(m *api.Board, n uint16) { m.CPU.R[k] = n }))
	}
	return append(l,
		number(func(m api.Board) byte { return m.CPU.D }, func(m *api.Board, n byte) { m.CPU.D = n }),
		flag(func(m api.Board) bool { return m.CPU.DF }, func(m *api.Board, is bool) { m.CPU.DF = is }),
		number(func(m api.Board) byte { return m.CPU.P }, func(m *api.Board, n byte) { m.CPU.P = n }),
		number(func(m api.Board) byte { return m.CPU.X }, func(m *api.Board, n byte) { m.CPU.X = n }),
		number(func(m api.Board) byte { return m.CPU.T }, func(m *api.Board, n byte) { m.CPU.T = n }),
		flag(func(m api.Board) bool { return m.CPU.IE }, func(m *api.Board, is bool) { m.CPU.IE = is }),
		flag(func(m api.Board) bool { return m.CPU.Q }, func(m *api.Board, is bool) { m.CPU.Q = is }),
		number(func(m api.Board) byte { return m.CPU.Op }, func(m *api.Board, n byte) { m.CPU.Op = n }),
		number(func(m api.Board) byte { return m.CPU.B }, func(m *api.Board, n byte) { m.CPU.B = n }),
		number(func(m api.Board) api.Phase { return m.CPU.Phase }, func(m *api.Board, n api.Phase) { m.CPU.Phase = n }),
		number(func(m api.Board) uint16 { return uint16(m.Raster.Line) }, func(m *api.Board, n uint16) { m.Raster.Line = int(n) }),
		number(func(m api.Board) byte { return byte(m.Raster.Cycle) }, func(m *api.Board, n byte) { m.Raster.Cycle = int(n) }),
		flag(func(m api.Board) bool { return m.Raster.On }, func(m *api.Board, is bool) { m.Raster.On = is }),
		number(func(m api.Board) byte { return byte(m.Raster.Got) }, func(m *api.Board, n byte) { m.Raster.Got = int(n) }),
		number(func(m api.Board) byte { return m.Pad.Latch }, func(m *api.Board, n byte) { m.Pad.Latch = n }),
		flag(func(m api.Board) bool { return m.Latch }, func(m *api.Board, is bool) { m.Latch = is }),
		number(func(m api.Board) uint64 { return m.Cycles }, func(m *api.Board, n uint64) { m.Cycles = n }),
		// How many bytes RAM has is kept as RAM itself, till they come.
		number(func(m api.Board) uint16 { return uint16(len(m.RAM)) }, func(m *api.Board, n uint16) { m.RAM = make([]byte, n) }),
		list(func(m api.Board) int { return len(m.RAM) }, func(m api.Board) []byte { return m.RAM }, func(m *api.Board, b []byte) { m.RAM = b }),
		list(always(api.ROMSize), func(m api.Board) []byte { return m.ROM }, func(m *api.Board, b []byte) { m.ROM = b }),
	)
}

// always is the size of a row that has as many bytes in each machine.
func always(n int) func(m api.Board) int {
	return func(api.Board) int { return n }
}

// opening is the row of what all machines have in common.
func opening() row {
	return row{
		size:  always(len(signature)),
		write: func(to []byte, _ api.Board) []byte { return append(to, signature...) },
		read:  func(_ *api.Board, from []byte) bool { return string(from) == signature },
	}
}

// number is the row of a number, in as many bytes as its type has: what it is in a machine, and what lays it there.
func number[N whole](of func(m api.Board) N, lay func(m *api.Board, n N)) row {
	return row{
		size:  always(width[N]()),
		write: func(to []byte, m api.Board) []byte { return appendNumber(to, of(m)) },
		read: func(m *api.Board, from []byte) bool {
			lay(m, readNumber[N](from))
			return true
		},
	}
}

// flag is the row of a yes or no.
func flag(of func(m api.Board) bool, lay func(m *api.Board, is bool)) row {
	return row{
		size: always(1),
		write: func(to []byte, m api.Board) []byte {
			if of(m) {
				return append(to, yes)
			}
			return append(to, no)
		},
		read: func(m *api.Board, from []byte) bool {
			lay(m, from[0] == yes)
			return from[0] == yes || from[0] == no
		},
	}
}

// list is the row of bytes, of which a machine that is read has its own.
func list(size func(m api.Board) int, of func(m api.Board) []byte, lay func(m *api.Board, b []byte)) row {
	return row{
		size:  size,
		write: func(to []byte, m api.Board) []byte { return append(to, of(m)...) },
		read: func(m *api.Board, from []byte) bool {
			own := make([]byte, len(from))
			copy(own, from)
			lay(m, own)
			return true
		},
	}
}
