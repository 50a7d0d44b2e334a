package cpu

import (
	"slices"
	"testing"

	"vesper/api"
)

// machine is a processor with 65536 bytes behind it and nothing else.
type machine struct {
	cpu api.CPU
	mem []byte
	out []byte // what went out, at any port
}

func newMachine(at int, program ...byte) *machine {
	m := &machine{cpu: Start(), mem: make([]byte, 65536)}
	copy(m.mem[at:], program)
	return m
}

// cycle is one cycle; p.Data is what stands on the bus if nobody else puts anything there.
func (m *machine) cycle(p api.Pins) api.Drive {
	d := Drive(m.cpu, p.Mode)
	switch {
	case d.Own:
		p.Data = d.Data
	case d.Read:
		p.Data = m.mem[d.Address]
	}
	if d.Write {
		m.mem[d.Address] = p.Data
	}
	if d.Port != 0 && d.Read {
		m.out = append(m.out, p.Data)
	}
	m.cpu = Step(m.cpu, p)
	return d
}

func (m *machine) run(cycles int, p api.Pins) {
	for range cycles {
		m.cycle(p)
	}
}

// till goes on till the processor fetches at an address; that it does so is seen to.
func (m *machine) till(t *testing.T, at uint16, p api.Pins) {
	t.Helper()
	for range 20000 {
		if m.cpu.Phase == api.Fetch && m.cpu.R[m.cpu.P] == at {
			return
		}
		m.cycle(p)
	}
	t.Fatalf("%04x is never fetched: %v", at, m.cpu)
}

// P4.4: DOC.md's first example of the whole: a sum, and a branch that stays.
func TestProgramOfASum(t *testing.T) {
	m := newMachine(0, 0xf8, 0xc8, 0xfc, 0x64, 0xaa, 0x30, 0x05)
	m.run(1+2*3, api.Pins{})
	want := api.CPU{D: 0x2c, DF: true, IE: true, Op: 0xaa, Phase: api.Fetch}
	want.R[0], want.R[10] = 5, 0x002c
	if m.cpu != want {
		t.Errorf("%v, wanted %v", m.cpu, want)
	}
	for range 10 {
		m.run(2, api.Pins{})
		want.Op = 0x30
		if m.cpu != want {
			t.Fatalf("%v, wanted %v", m.cpu, want)
		}
	}
}

// P4.4: two bytes are multiplied by sums, and both bytes of what comes of it go out.
func TestProgramOfAProduct(t *testing.T) {
	product := []byte{
		0xf8, 0x00, 0xa7, 0xb7, // 00: R7 is 0
		0xf8, 0x40, 0xa5, 0xf8, 0x00, 0xb5, 0xe5, // 04: R5 points at 0040, and is X
		0xf8, 0xc7, 0xa6, // 0b: R6 counts
		0x87, 0xf4, 0xa7, // 0e: ADD the low bytes
		0x97, 0x7c, 0x00, 0xb7, // 11: ADCI 0 to the high one
		0x26, 0x86, 0x3a, 0x0e, // 15: DEC, GLO, BNZ
		0x97, 0x73, 0x87, 0x73, // 19: GHI, STXD, GLO, STXD
		0x60, 0x61, 0x61, // 1d: IRX, OUT 1, OUT 1
	}
	m := newMachine(0, product...)
	m.mem[0x40] = 0x58 // the other factor
	m.till(t, 0x19, api.Pins{})
	if m.cpu.R[7] != 0x58*0xc7 {
		t.Fatalf("%04x", m.cpu.R[7])
	}
	m.till(t, 0x20, api.Pins{})
	if want := []byte{0x58 * 0xc7 & 0xff, 0x58 * 0xc7 >> 8}; !slices.Equal(m.out, want) {
		t.Errorf("%02x, wanted %02x", m.out, want)
	}
}

// interrupted is a program that counts in R7, with a routine at 0043 (R1) that counts in R8 and gives back what it found.
func interrupted() *machine {
	m := newMachine(0,
		0xf8, 0x00, 0xb1, 0xb2, 0xf8, 0x43, 0xa1, // R1 is 0043
		0xf8, 0xff, 0xa2, // R2 is 00ff
		0xd3, // SEP 3
	)
	copy(m.mem[0x30:], []byte{0x17, 0xfc, 0x01, 0x30, 0x30}) // INC 7, ADI 1, BR 30
	copy(m.mem[0x40:], []byte{
		0x72, 0x70, 0x00, // 40: D comes back (LDXA), then X and P (RET)
		0x22, 0x78, 0x22, 0x73, 0x18, 0x60, 0x30, 0x40, // 43: DEC 2, SAV, DEC 2, STXD, INC 8, IRX, BR 40
	})
	return m
}

// DOC.md: an interrupt comes between two instructions, and what it found goes on.
func TestProgramWithInterrupts(t *testing.T) {
	for wait := range 40 {
		m := interrupted()
		m.cpu = Step(m.cpu, api.Pins{})
		m.cpu.R[3] = 0x0030
		m.till(t, 0x30, api.Pins{})
		m.run(wait, api.Pins{})
		for k := 0; m.cpu.Phase != api.Interrupt; k++ {
			if k > 2 {
				t.Fatalf("no interrupt: %v", m.cpu)
			}
			m.cycle(api.Pins{Interrupt: true})
		}
		ahead := m.cpu
		m.cycle(api.Pins{Interrupt: true})
		if m.cpu.IE || m.cpu.P != 1 || m.cpu.X != 2 || m.cpu.T != 0x03 {
			t.Fatalf("behind S3: %v", m.cpu)
		}
		for m.cpu.P == 1 {
			m.cycle(api.Pins{Interrupt: m.cpu.Op != 0x70})
		}
		if m.cpu.R[3] != ahead.R[3] || m.cpu.D != ahead.D || m.cpu.DF != ahead.DF || m.cpu.R[7] != ahead.R[7] {
			t.Fatalf("%v has become %v", ahead, m.cpu)
		}
		if m.cpu.P != 3 || m.cpu.X != 0 || !m.cpu.IE || m.cpu.R[2] != 0x00ff || m.cpu.R[8] != 1 || m.cpu.Phase != api.Fetch {
			t.Fatalf("%v has become %v", ahead, m.cpu)
		}
	}
}

// DOC.md: DMA takes bytes between two instructions, from R0 on, and a program that has another counter goes on as without it.
func TestProgramWithDMA(t *testing.T) {
	with, without := interrupted(), interrupted()
	for _, m := range []*machine{with, without} {
		m.cycle(api.Pins{})
		m.cpu.R[3] = 0x0030
		m.till(t, 0x30, api.Pins{})
		m.cpu.R[0] = 0xfffe
	}
	stolen := 0
	for k := range 4000 {
		d := with.cycle(api.Pins{DMAOut: k%7 < 3})
		if d.Code == api.S2 {
			if d.Address != uint16(0xfffe+stolen) || !d.Read || d.Write {
				t.Fatalf("byte %d: %v", stolen, d)
			}
			stolen++
			continue
		}
		if other := without.cycle(api.Pins{}); other != d {
			t.Fatalf("cycle %d: %v, without %v", k, d, other)
		}
	}
	if stolen < 500 {
		t.Errorf("%d bytes", stolen)
	}
}

// DOC.md: a program comes in by Load and DMA-IN, and begins behind Reset and Run.
func TestProgramIsLoaded(t *testing.T) {
	m := newMachine(0)
	m.cpu = distinct(api.Execute, 0xc0)
	m.cycle(api.Pins{Mode: api.Reset})
	m.cycle(api.Pins{Mode: api.Load, DMAIn: true})
	program := []byte{0xf8, 0x3c, 0xb4, 0x7b, 0x00}
	for k, b := range program {
		if d := m.cycle(api.Pins{Mode: api.Load, Data: b, DMAIn: k < len(program)-1}); d != (api.Drive{Code: api.S2, Address: uint16(k), Write: true, Pulse: true}) {
			t.Fatalf("byte %d: %v", k, d)
		}
	}
	for range 4 {
		if d := m.cycle(api.Pins{Mode: api.Load, Interrupt: true, DMAOut: true}); d != (api.Drive{Code: api.S1, Address: 5, Read: true, Pulse: true}) {
			t.Fatalf("it rests: %v", d)
		}
	}
	if !slices.Equal(m.mem[:6], append(program, 0)) {
		t.Fatalf("%02x", m.mem[:6])
	}
	m.cycle(api.Pins{Mode: api.Reset})
	m.run(12, api.Pins{})
	if c := m.cpu; c.R[4] != 0x3c96 || !c.Q || c.Phase != api.Idle || c.R[0] != 5 {
		t.Errorf("%v", c)
	}
}

// P4.3, P4.4: programs of any bytes, in step with the document's tables, with requests and modes that come and go.
func TestProgramsOfAnyBytes(t *testing.T) {
	d := draw(47)
	for range 60 {
		m := newMachine(0)
		for k := range m.mem {
			m.mem[k] = byte(d.below(256))
		}
		m.cpu.R[1] = 0x4000
		p := api.Pins{}
		for range 3000 {
			if d.below(20) == 0 {
				p = lines(api.Pins{EF: flags(d.below(16))}, d.below(8)&d.below(8))
				if d.below(10) == 0 {
					p.Mode = allModes[d.below(4)]
				}
			}
			p.Data = byte(d.below(256))
			alike(t, m.cpu, p)
			m.cycle(p)
		}
	}
}
