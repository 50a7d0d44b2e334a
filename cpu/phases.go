package cpu

import (
	"vesper/api"
	"vesper/code"
)

// cycle is one machine cycle: the processor ahead of it, and what comes to that in it. Its methods work on a copy, and answer the processor behind it.
type cycle struct {
	api.CPU
	api.Pins
}

// loading is the processor as the mode Load takes it: what is under way is thrown away, but for a beginning and a byte that comes in.
func loading(c api.CPU) api.CPU {
	if c.Phase != api.Begin && c.Phase != api.DMAIn {
		c.Phase, c.Op, c.B = api.Idle, idl, 0
	}
	return c
}

// driveRunning is what the cycle of a phase does to the bus, in the mode Run.
func driveRunning(c api.CPU) api.Drive {
	d := api.Drive{Code: api.S1, Address: c.R[0], Pulse: true}
	second := false
	switch c.Phase {
	case api.Fetch:
		d.Code, d.Address, d.Read = api.S0, c.R[c.P], true
	case api.Second:
		second = true
		fallthrough
	case api.Execute:
		return driveExecuting(c, second)
	case api.DMAOut:
		d.Code = api.S2
		fallthrough
	case api.Idle:
		d.Read = true
	case api.DMAIn:
		d.Code, d.Write = api.S2, true
	case api.Interrupt:
		d.Code, d.Address = api.S3, c.R[c.Op&15]
	}
	return d
}

func driveExecuting(c api.CPU, second bool) api.Drive {
	use := code.Bus(c.Op, second)
	d := api.Drive{Code: api.S1, Address: pointed(c, use.Point), Read: use.Read, Write: use.Write, Own: use.Own, Port: use.Port, Pulse: true}
	if use.Own {
		d.Data = rows()[c.Op>>4].own(cycle{CPU: c})
	}
	return d
}

// pointed is the word of the register that gives an address.
func pointed(c api.CPU, p api.Point) uint16 {
	numbers := [...]byte{api.PointN: c.Op & 15, api.PointX: c.X, api.PointP: c.P, api.Point2: 2, api.Point0: 0}
	return c.R[numbers[p]]
}

// behind is the processor behind the cycle of its phase; its Phase is the one that comes if nothing is asked for.
func (w cycle) behind() api.CPU {
	c, next := w.CPU, api.Fetch
	switch w.Phase {
	case api.Fetch:
		c.Op = w.Data
		c.R[c.P]++
		next = api.Execute
	case api.Execute:
		c = rows()[w.Op>>4].first(w)
		if isLong(w.Op) {
			next = api.Second
		}
		if w.Op != idl {
			break
		}
		fallthrough
	case api.Idle:
		next = api.Idle
	case api.Second:
		c = rows()[w.Op>>4].second(w)
	case api.Begin:
		c.X, c.P, c.R[0] = 0, 0, 0
	case api.DMAIn, api.DMAOut:
		c.R[0]++
	case api.Interrupt:
		c.T = w.both()
		c.P, c.X, c.IE = 1, 2, false
	}
	c.Phase = next
	return c
}

// behindRun lets come what is asked for, unless an instruction is under way.
func behindRun(w cycle) api.CPU {
	c := w.behind()
	switch {
	case c.Phase == api.Execute || c.Phase == api.Second: // nobody is asked
	case w.DMAIn:
		c.Phase = api.DMAIn
	case w.DMAOut:
		c.Phase = api.DMAOut
	case w.Interrupt && c.IE && w.Phase != api.Begin && w.Phase != api.Interrupt:
		c.Phase = api.Interrupt
	}
	return c
}

// behindLoad lets bytes come in, and nothing else.
func behindLoad(w cycle) api.CPU {
	c := w.behind()
	if w.DMAIn {
		c.Phase = api.DMAIn
		return c
	}
	c.Phase, c.Op = api.Idle, idl
	return c
}
