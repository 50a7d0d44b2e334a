package board

import (
	"vesper/api"
	"vesper/cpu"
	"vesper/pad"
	"vesper/pixie"
	"vesper/script"
)

// latchPort is the one at which a byte that goes out lets the latch go.
const latchPort = 4

// cycle is what all parts see of a cycle.
type cycle struct {
	span  api.Span
	mode  api.Mode
	drive api.Drive
	data  byte // what stands on the bus
}

// line is a line to the processor: is it asked for in this cycle?
type line func(c cycle) bool

// wires say what is wired to whom.
type wires struct {
	flags     [4]line // EF1 to EF4
	dmaIn     line
	dmaOut    line
	interrupt line
	behind    []func(c cycle) // what goes on when the cycle is over
}

// wire is the wires between these parts and the outer world.
func wire(m *machine) wires {
	return wires{
		flags: [4]line{
			func(cycle) bool { return pixie.Flag(m.raster) },
			func(c cycle) bool { return c.span.Tape },
			func(c cycle) bool { return pad.Down(m.keypad, c.span.Keys) },
			func(c cycle) bool { return c.span.Flag },
		},
		dmaIn:     func(c cycle) bool { return c.span.DMAIn },
		dmaOut:    func(c cycle) bool { return c.span.DMAOut || pixie.Request(m.raster, c.drive) },
		interrupt: func(c cycle) bool { return c.span.Interrupt || pixie.Interrupt(m.raster) },
		behind: []func(c cycle){
			func(c cycle) { m.raster = pixie.Step(m.raster, c.drive, c.mode) },
			func(c cycle) { m.keypad = pad.Step(m.keypad, c.drive, c.data) },
			func(c cycle) {
				if c.mode == api.Reset {
					m.SetLatch(true)
				} else if c.drive.Read && c.drive.Port == latchPort {
					m.SetLatch(false)
				}
			},
		},
	}
}

// pins are what comes to the processor in a cycle.
func (w wires) pins(c cycle) api.Pins {
	p := api.Pins{
		Mode:      c.mode,
		Data:      c.data,
		DMAIn:     w.dmaIn(c),
		DMAOut:    w.dmaOut(c),
		Interrupt: w.interrupt(c),
	}
	for k, flag := range w.flags {
		p.EF[k] = flag(c)
	}
	return p
}

// cycle is the one that comes, with a span of the outer world.
func (m *machine) cycle(s api.Span) cycle {
	mode := script.Mode(s)
	d := cpu.Drive(m.processor, mode)
	return cycle{span: s, mode: mode, drive: d, data: m.onBus(d, s.Bus)}
}

// onBus is the byte that stands on the bus; the outer world's does, where nobody else puts anything.
func (m *machine) onBus(d api.Drive, outer byte) byte {
	switch {
	case d.Own:
		return d.Data
	case d.Read:
		return m.Read(d.Address)
	}
	return outer
}

// record is what was seen of it.
func (c cycle) record(q bool) api.Record {
	return api.Record{
		Code:    c.drive.Code,
		Address: c.drive.Address,
		Data:    c.data,
		Read:    c.drive.Read,
		Write:   c.drive.Write,
		Port:    c.drive.Port,
		Q:       q,
		Mode:    c.mode,
	}
}
