package cpu

import (
	"strings"
	"testing"

	"vesper/api"
)

// The phases' signs in the tables below.
const signs = "?FESDBIOT"

func sign(p api.Phase) string {
	if int(p) < len(signs) {
		return signs[p : p+1]
	}
	return "?"
}

// comes is the phase that comes behind a cycle with the requests 0 to 7 (4 DMA-IN, 2 DMA-OUT, 1 INT), a sign each.
func comes(c api.CPU, m api.Mode, data byte) string {
	var all strings.Builder
	for k := range 8 {
		all.WriteString(sign(Step(c, lines(api.Pins{Mode: m, Data: data}, k)).Phase))
	}
	return all.String()
}

// What comes behind each kind of cycle in Run: F Fetch, E Execute, S Second, D Idle, I DMAIn, O DMAOut, T Interrupt.
const (
	askedOn  = "FTOOIIII"
	askedOff = "FFOOIIII"
	idleOn   = "DTOOIIII"
	idleOff  = "DDOOIIII"
)

// DOC.md, 'asked': behind each phase but Execute.
func TestAskedBehindPhases(t *testing.T) {
	for _, x := range []struct {
		phase   api.Phase
		on, off string
	}{
		{api.Fetch, "EEEEEEEE", "EEEEEEEE"},
		{api.Second, askedOn, askedOff},
		{api.Idle, idleOn, idleOff},
		{api.Begin, askedOff, askedOff},
		{api.DMAIn, askedOn, askedOff},
		{api.DMAOut, askedOn, askedOff},
		{api.Interrupt, askedOff, askedOff},
	} {
		for n := range 256 {
			c := distinct(x.phase, byte(n))
			if !twinMayBe(c) {
				continue
			}
			if got := comes(c, api.Run, 0xc0); got != x.on {
				t.Errorf("phase %d, op %02x, IE on: %s, wanted %s", x.phase, n, got, x.on)
			}
			c.IE = false
			if got := comes(c, api.Run, 0xc0); got != x.off {
				t.Errorf("phase %d, op %02x, IE off: %s, wanted %s", x.phase, n, got, x.off)
			}
		}
	}
}

// DOC.md, 'asked': behind the S1 of each instruction. IE counts as it is behind it, so RET and DIS make it so.
func TestAskedBehindInstructions(t *testing.T) {
	for n := range 256 {
		on, off := askedOn, askedOff
		switch {
		case n == 0x00:
			on, off = idleOn, idleOff
		case n == 0x70:
			off = askedOn
		case n == 0x71:
			on = askedOff
		case n >= 0xc0 && n <= 0xcf:
			on, off = "SSSSSSSS", "SSSSSSSS"
		}
		c := distinct(api.Execute, byte(n))
		if got := comes(c, api.Run, 0x35); got != on {
			t.Errorf("op %02x, IE on: %s, wanted %s", n, got, on)
		}
		c.IE = false
		if got := comes(c, api.Run, 0x35); got != off {
			t.Errorf("op %02x, IE off: %s, wanted %s", n, got, off)
		}
	}
}

// DOC.md: in Load bytes come in, and nothing else comes; Reset and Pause ask nobody.
func TestAskedInOtherModes(t *testing.T) {
	for _, c := range whole() {
		same := strings.Repeat(sign(c.Phase), 8)
		for _, x := range []struct {
			mode api.Mode
			want string
		}{{api.Load, "DDDDIIII"}, {api.Reset, "BBBBBBBB"}, {api.Pause, same}} {
			if got := comes(c, x.mode, 0xc0); got != x.want {
				t.Errorf("%v in mode %d: %s, wanted %s", c, x.mode, got, x.want)
			}
		}
	}
}

// modeRow is a row of DOC.md's table: what the cycle does to the bus, and what becomes of the processor; no request is made.
type modeRow struct {
	phase api.Phase
	op    byte
	mode  api.Mode
	drive api.Drive
	makes func(*api.CPU)
}

// The processor of these rows is distinct: R0 is 0312, R9 (P) 943b, RA (X) a45c, R2 2354, R3 3375.
func modeRows() []modeRow {
	idle := func(c *api.CPU) { c.Op, c.B, c.Phase = 0, 0, api.Idle }
	begin := func(c *api.CPU) { c.X, c.P, c.R[0] = 0, 0, 0 }
	moved := func(c *api.CPU) { c.R[0] = 0x0313 }
	then := func(phase api.Phase, all ...func(*api.CPU)) func(*api.CPU) {
		return func(c *api.CPU) {
			for _, f := range all {
				f(c)
			}
			c.Phase = phase
		}
	}
	fetched := func(c *api.CPU) { c.Op, c.R[9] = 0xa7, 0x943c }
	broken := func(c *api.CPU) { c.T, c.P, c.X, c.IE = 0xa9, 1, 2, false }
	read0 := api.Drive{Code: api.S1, Address: 0x0312, Read: true, Pulse: true}
	plain := api.Drive{Code: api.S1, Address: 0x0312, Pulse: true}
	in := api.Drive{Code: api.S2, Address: 0x0312, Write: true, Pulse: true}
	out := api.Drive{Code: api.S2, Address: 0x0312, Read: true, Pulse: true}
	byP := api.Drive{Code: api.S1, Address: 0x943b, Read: true, Pulse: true}
	return []modeRow{
		{api.Begin, 0x00, api.Run, plain, then(api.Fetch, begin)},
		{api.Fetch, 0x73, api.Run, api.Drive{Code: api.S0, Address: 0x943b, Read: true, Pulse: true}, then(api.Execute, fetched)},
		{api.Execute, 0x63, api.Run, api.Drive{Code: api.S1, Address: 0xa45c, Read: true, Port: 3, Pulse: true}, then(api.Fetch, func(c *api.CPU) { c.R[10] = 0xa45d })},
		{api.Execute, 0xc0, api.Run, byP, then(api.Second, func(c *api.CPU) { c.R[9], c.B = 0x943c, 0xa7 })},
		{api.Second, 0xc0, api.Run, byP, then(api.Fetch, func(c *api.CPU) { c.R[9], c.B = 0x6fa7, 0 })},
		{api.Idle, 0x00, api.Run, read0, then(api.Idle)},
		{api.DMAIn, 0x73, api.Run, in, then(api.Fetch, moved)},
		{api.DMAOut, 0x73, api.Run, out, then(api.Fetch, moved)},
		{api.Interrupt, 0x73, api.Run, api.Drive{Code: api.S3, Address: 0x3375, Pulse: true}, then(api.Fetch, broken)},

		{api.Begin, 0x00, api.Load, plain, then(api.Idle, begin)},
		{api.DMAIn, 0x73, api.Load, in, then(api.Idle, moved, idle)},
		{api.Fetch, 0x73, api.Load, read0, idle},
		{api.Execute, 0x63, api.Load, read0, idle},
		{api.Execute, 0xc0, api.Load, read0, idle},
		{api.Second, 0xc0, api.Load, read0, idle},
		{api.Idle, 0x00, api.Load, read0, idle},
		{api.DMAOut, 0x73, api.Load, read0, idle},
		{api.Interrupt, 0x73, api.Load, read0, idle},
	}
}

func rowCPU(phase api.Phase, op byte) api.CPU {
	c := distinct(phase, op)
	c.Q = true
	if phase == api.Second {
		c.B = 0x6f
	}
	return c
}

// P4.3, P4.4: each phase in Run and Load.
func TestPhasesInRunAndLoad(t *testing.T) {
	for _, x := range modeRows() {
		c := rowCPU(x.phase, x.op)
		if d := Drive(c, x.mode); d != x.drive {
			t.Errorf("phase %d, mode %d: %v, wanted %v", x.phase, x.mode, d, x.drive)
		}
		want := c
		x.makes(&want)
		if s := Step(c, api.Pins{Mode: x.mode, Data: 0xa7}); s != want {
			t.Errorf("phase %d, mode %d: %v, wanted %v", x.phase, x.mode, s, want)
		}
	}
}

// P4.3, P4.4, P4.7: each phase in Pause and Reset, an instruction's middle among them.
func TestPhasesInPauseAndReset(t *testing.T) {
	for _, x := range modeRows() {
		if x.mode != api.Run {
			continue
		}
		for _, ie := range []bool{false, true} {
			c := rowCPU(x.phase, x.op)
			c.IE = ie
			if d := Drive(c, api.Pause); d != (api.Drive{Code: x.drive.Code, Address: x.drive.Address}) {
				t.Errorf("phase %d in Pause: %v", x.phase, d)
			}
			if d := Drive(c, api.Reset); d != (api.Drive{Code: api.S1, Address: 0x0312, Own: true}) {
				t.Errorf("phase %d in Reset: %v", x.phase, d)
			}
			reset := c
			reset.Op, reset.B, reset.Q, reset.IE, reset.Phase = 0, 0, false, true, api.Begin
			for k := range 8 {
				p := lines(api.Pins{Mode: api.Pause, Data: 0xa7, EF: flags(15)}, k)
				if s := Step(c, p); s != c {
					t.Errorf("phase %d behind Pause: %v", x.phase, s)
				}
				p.Mode = api.Reset
				if s := Step(c, p); s != reset {
					t.Errorf("phase %d behind Reset: %v", x.phase, s)
				}
			}
		}
	}
}

// DOC.md: Load's DMAIn keeps Op while bytes go on coming, and has Op 0 when it rests; all others have Op and B 0 at once.
func TestOpInLoad(t *testing.T) {
	for _, c := range whole() {
		in := Step(c, api.Pins{Mode: api.Load, DMAIn: true})
		rest := Step(c, api.Pins{Mode: api.Load})
		op := byte(0)
		if c.Phase == api.DMAIn {
			op = c.Op
		}
		if in.Op != op || in.B != 0 || rest.Op != 0 || rest.B != 0 {
			t.Errorf("%v: %v, %v", c, in, rest)
		}
	}
}

// P4.7: a Pause of many cycles keeps what is under way, and what it would have done is done behind it.
func TestPauseGoesOn(t *testing.T) {
	for _, c := range whole() {
		want := Step(c, api.Pins{Data: 0x3c})
		long := c
		for k := range 50 {
			long = Step(long, lines(api.Pins{Mode: api.Pause, Data: byte(k), EF: flags(k % 16)}, k%8))
		}
		if long != c || Step(long, api.Pins{Data: 0x3c}) != want {
			t.Errorf("%v has become %v", c, long)
		}
	}
}

// P4.7: Reset keeps the rest, the cycle Begin clears X, P and R0, and the fetch is at 0.
func TestResetAndRun(t *testing.T) {
	for _, c := range whole() {
		r := c
		for k := range 3 {
			r = Step(r, lines(api.Pins{Mode: api.Reset, Data: 0xff, EF: flags(15)}, 7*k%8))
			if r.R != c.R || r.D != c.D || r.DF != c.DF || r.T != c.T || r.X != c.X || r.P != c.P {
				t.Fatalf("%v behind Reset: %v", c, r)
			}
		}
		b := Step(r, api.Pins{Data: 0xff, Interrupt: true})
		want := c
		want.X, want.P, want.R[0], want.Q, want.IE, want.Op, want.B, want.Phase = 0, 0, 0, false, true, 0, 0, api.Fetch
		if b != want {
			t.Errorf("behind Begin: %v, wanted %v", b, want)
		}
		if d := Drive(b, api.Run); d != (api.Drive{Code: api.S0, Read: true, Pulse: true}) {
			t.Errorf("the fetch: %v", d)
		}
	}
}

// DOC.md: IDL goes on till DMA or an interrupt comes; with IE off no interrupt does. Behind each of them the program goes on.
func TestIdleIsLeft(t *testing.T) {
	for _, ie := range []bool{false, true} {
		c := distinct(api.Execute, 0x00)
		c.IE = ie
		for range 5 {
			c = Step(c, api.Pins{Interrupt: !ie})
			if c.Phase != api.Idle || c.Op != 0 {
				t.Fatalf("IDL, IE %v: %v", ie, c)
			}
		}
		in := Step(c, api.Pins{DMAIn: true, Interrupt: true})
		out := Step(c, api.Pins{DMAOut: true, Interrupt: true})
		if in.Phase != api.DMAIn || out.Phase != api.DMAOut {
			t.Errorf("IE %v: %v, %v", ie, in, out)
		}
		for _, x := range []api.CPU{in, out} {
			b := Step(x, api.Pins{})
			if b.Phase != api.Fetch || b.R[0] != c.R[0]+1 {
				t.Errorf("behind DMA, IE %v: %v", ie, b)
			}
		}
		if !ie {
			continue
		}
		i := Step(Step(c, api.Pins{Interrupt: true}), api.Pins{Interrupt: true})
		if i.Phase != api.Fetch || i.P != 1 || i.X != 2 || i.T != 0xa9 || i.IE || i.R != c.R {
			t.Errorf("behind the interrupt: %v", i)
		}
	}
}
