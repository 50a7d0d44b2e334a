package cpu

import (
	"testing"

	"vesper/api"
)

var (
	allModes  = []api.Mode{api.Run, api.Pause, api.Reset, api.Load}
	allPhases = []api.Phase{api.Fetch, api.Execute, api.Second, api.Idle, api.Begin, api.DMAIn, api.DMAOut, api.Interrupt}
	// The ops that a phase may have: of each kind some, and the edges of the long ones.
	someOps = []byte{0x00, 0x01, 0x10, 0x30, 0x34, 0x3f, 0x61, 0x6f, 0x70, 0x79, 0xbf, 0xc0, 0xc4, 0xc8, 0xcf, 0xd0, 0xff}
)

// draw is a row of numbers without rhyme that is the same in each run.
type draw uint64

func (d *draw) below(n int) int {
	*d = *d*6364136223846793005 + 1442695040888963407
	return int(uint64(*d) >> 33 % uint64(n))
}

func (d *draw) flag() bool { return d.below(2) == 1 }

// lines are the three requests by the bits of n: 4 DMA-IN, 2 DMA-OUT, 1 INT.
func lines(p api.Pins, n int) api.Pins {
	p.DMAIn, p.DMAOut, p.Interrupt = n&4 != 0, n&2 != 0, n&1 != 0
	return p
}

func flags(n int) [4]bool { return [4]bool{n&1 != 0, n&2 != 0, n&4 != 0, n&8 != 0} }

// distinct is a processor of which no two parts are alike.
func distinct(phase api.Phase, op byte) api.CPU {
	c := api.CPU{D: 0x4d, P: 9, X: 10, T: 0x5e, IE: true, Op: op, Phase: phase}
	for k := range c.R {
		c.R[k] = uint16(0x1021*k + 0x0312)
	}
	return c
}

// whole are processors of each phase that may be, with the ops that it may have.
func whole() []api.CPU {
	var all []api.CPU
	for _, phase := range allPhases {
		for _, op := range someOps {
			c := distinct(phase, op)
			if phase == api.Second {
				c.B = 0x6f
			}
			for k := range 4 {
				c.IE, c.Q, c.DF = k&1 != 0, k&2 != 0, k == 1 || k == 2
				if twinMayBe(c) {
					all = append(all, c)
				}
			}
		}
	}
	return all
}

// P4.1
func TestStart(t *testing.T) {
	c := Start()
	if want := (api.CPU{IE: true, Phase: api.Begin}); c != want {
		t.Errorf("%v", c)
	}
	if e := Check(c); e != api.OK {
		t.Errorf("Check of it: %d", e)
	}
}

// refused sees to it that a processor is told to be none, and that nothing is answered of it.
func refused(t *testing.T, c api.CPU) {
	t.Helper()
	c.R, c.D, c.IE = distinct(api.Fetch, 0).R, 0x4d, true
	if e := Check(c); e != api.ErrCPUState {
		t.Errorf("Check(%v) = %d", c, e)
	}
	for m := range 256 {
		mode := api.Mode(m)
		if d := Drive(c, mode); d != (api.Drive{}) {
			t.Errorf("Drive(%v, %d) = %v", c, m, d)
		}
		for _, p := range []api.Pins{{Mode: mode}, {Mode: mode, Data: 0xc3, EF: flags(15), DMAIn: true, DMAOut: true, Interrupt: true}} {
			if s := Step(c, p); s != (api.CPU{}) {
				t.Errorf("Step(%v, %v) = %v", c, p, s)
			}
		}
	}
}

func taken(t *testing.T, c api.CPU) {
	t.Helper()
	c.R, c.D, c.IE = distinct(api.Fetch, 0).R, 0x4d, true
	if e := Check(c); e != api.OK {
		t.Errorf("Check(%v) = %d", c, e)
	}
	for _, m := range allModes {
		if d := Drive(c, m); d == (api.Drive{}) {
			t.Errorf("Drive(%v, %d) is nothing", c, m)
		}
		if s := Step(c, api.Pins{Mode: m}); s == (api.CPU{}) {
			t.Errorf("Step(%v, %d) is nothing", c, m)
		}
	}
}

// P4.2: P and X.
func TestCheckNumbersOfRegisters(t *testing.T) {
	for n := range 256 {
		for _, c := range []api.CPU{{P: byte(n), Phase: api.Fetch}, {X: byte(n), Phase: api.Fetch}, {P: byte(n), X: byte(n), Phase: api.Interrupt}, {P: 15, X: byte(n), Op: 0xc0, Phase: api.Second}} {
			if n <= 15 {
				taken(t, c)
			} else {
				refused(t, c)
			}
		}
	}
}

// P4.2: the phases that are none.
func TestCheckPhases(t *testing.T) {
	for n := range 256 {
		c := api.CPU{Phase: api.Phase(n)}
		if c.Phase == api.Second {
			c.Op = 0xc0
		}
		if n >= 1 && n <= 8 {
			taken(t, c)
		} else {
			refused(t, c)
			c.Op = 0xc0
			refused(t, c)
		}
	}
}

// P4.2: B is for Second alone.
func TestCheckB(t *testing.T) {
	for _, phase := range allPhases {
		for b := 1; b < 256; b++ {
			if phase == api.Second {
				taken(t, api.CPU{B: byte(b), Op: 0xc2, Phase: phase})
				continue
			}
			refused(t, api.CPU{B: byte(b), Phase: phase})
			refused(t, api.CPU{B: byte(b), Op: 0xc2, Phase: phase})
		}
	}
}

// P4.2: which ops Second, Begin and Idle have.
func TestCheckOps(t *testing.T) {
	for n := range 256 {
		op := byte(n)
		for _, phase := range allPhases {
			fits := true
			switch phase {
			case api.Second:
				fits = n >= 0xc0 && n <= 0xcf
			case api.Begin, api.Idle:
				fits = n == 0
			}
			if c := (api.CPU{Op: op, Phase: phase}); fits {
				taken(t, c)
			} else {
				refused(t, c)
			}
		}
	}
}

// P4.2: nothing else is looked at.
func TestCheckTakesAllElse(t *testing.T) {
	d := draw(1)
	for range 20000 {
		c := someCPU(&d)
		want := api.OK
		if !twinMayBe(c) {
			want = api.ErrCPUState
		}
		if e := Check(c); e != want {
			t.Fatalf("Check(%v) = %d", c, e)
		}
	}
}

// someCPU is a processor of which about the half may be.
func someCPU(d *draw) api.CPU {
	c := api.CPU{D: byte(d.below(256)), T: byte(d.below(256)), P: byte(d.below(16)), X: byte(d.below(16)), Op: byte(d.below(256)), Phase: api.Phase(1 + d.below(8))}
	c.DF, c.IE, c.Q = d.flag(), d.flag(), d.flag()
	for k := range c.R {
		c.R[k] = uint16(d.below(65536))
	}
	switch {
	case c.Phase == api.Second && d.flag():
		c.Op = 0xc0 + c.Op%16
		c.B = byte(d.below(256))
	case d.below(4) == 0:
		c.Op = 0
	case d.below(8) == 0:
		c.B = byte(d.below(256))
	case d.below(8) == 0:
		c.P += 16
	}
	return c
}

// P4.2: the modes that are none, of processors that may be.
func TestModesThatAreNone(t *testing.T) {
	for _, c := range append(whole(), Start()) {
		for m := 4; m < 256; m++ {
			if d := Drive(c, api.Mode(m)); d != (api.Drive{}) {
				t.Fatalf("Drive(%v, %d) = %v", c, m, d)
			}
			for k := range 8 {
				if s := Step(c, lines(api.Pins{Mode: api.Mode(m), Data: 0x77, EF: flags(5)}, k)); s != (api.CPU{}) {
					t.Fatalf("Step(%v, %d) = %v", c, m, s)
				}
			}
		}
	}
}

// P4.3, P4.4: the chapter's examples, in their order.
func TestExamples(t *testing.T) {
	run := func(c api.CPU, data byte) api.CPU { return Step(c, api.Pins{Data: data}) }
	drives := func(c api.CPU, m api.Mode, want api.Drive) {
		t.Helper()
		if d := Drive(c, m); d != want {
			t.Errorf("Drive(%v, %d) = %v, wanted %v", c, m, d, want)
		}
	}
	stands := func(c, want api.CPU) {
		t.Helper()
		if c != want {
			t.Errorf("%v, wanted %v", c, want)
		}
	}
	drives(Start(), api.Run, api.Drive{Code: api.S1, Pulse: true})
	c := run(Start(), 0)
	stands(c, api.CPU{IE: true, Phase: api.Fetch})
	drives(c, api.Run, api.Drive{Code: api.S0, Read: true, Pulse: true})
	c = run(c, 0xf8)
	stands(c, api.CPU{R: [16]uint16{1}, IE: true, Op: 0xf8, Phase: api.Execute})
	drives(c, api.Run, api.Drive{Code: api.S1, Address: 1, Read: true, Pulse: true})
	c = run(c, 0x42)
	stands(c, api.CPU{R: [16]uint16{2}, D: 0x42, IE: true, Op: 0xf8, Phase: api.Fetch})
	c = run(c, 0xc0)
	stands(c, api.CPU{R: [16]uint16{3}, D: 0x42, IE: true, Op: 0xc0, Phase: api.Execute})
	c = run(c, 0x12)
	stands(c, api.CPU{R: [16]uint16{4}, D: 0x42, IE: true, Op: 0xc0, B: 0x12, Phase: api.Second})
	c = run(c, 0x34)
	stands(c, api.CPU{R: [16]uint16{0x1234}, D: 0x42, IE: true, Op: 0xc0, Phase: api.Fetch})

	i := run(c, 0x00)
	stands(i, api.CPU{R: [16]uint16{0x1235}, D: 0x42, IE: true, Phase: api.Execute})
	drives(i, api.Run, api.Drive{Code: api.S1, Address: 0x1235, Read: true, Pulse: true})
	i = run(i, 0x99)
	stands(i, api.CPU{R: [16]uint16{0x1235}, D: 0x42, IE: true, Phase: api.Idle})
	i = Step(i, api.Pins{Interrupt: true})
	stands(i, api.CPU{R: [16]uint16{0x1235}, D: 0x42, IE: true, Phase: api.Interrupt})
	drives(i, api.Run, api.Drive{Code: api.S3, Address: 0x1235, Pulse: true})
	stands(run(i, 0), api.CPU{R: [16]uint16{0x1235}, D: 0x42, P: 1, X: 2, Phase: api.Fetch})

	s := run(c, 0xd3)
	s.R[3] = 0x0456
	drives(s, api.Run, api.Drive{Code: api.S1, Address: 0x0456, Own: true, Data: 0x33, Pulse: true})
	stands(run(s, 0x33), api.CPU{R: [16]uint16{0: 0x1235, 3: 0x0456}, D: 0x42, P: 3, IE: true, Op: 0xd3, Phase: api.Fetch})

	s.Q, s.IE = true, false
	drives(s, api.Reset, api.Drive{Code: api.S1, Address: 0x1235, Own: true})
	stands(Step(s, api.Pins{Mode: api.Reset}), api.CPU{R: [16]uint16{0: 0x1235, 3: 0x0456}, D: 0x42, IE: true, Phase: api.Begin})
	drives(s, api.Load, api.Drive{Code: api.S1, Address: 0x1235, Read: true, Pulse: true})
	stands(Step(s, api.Pins{Mode: api.Load}), api.CPU{R: [16]uint16{0: 0x1235, 3: 0x0456}, D: 0x42, Q: true, Phase: api.Idle})
}

// P4.5: an answer hangs on nothing but what is handed in, and that stays as it is.
func TestNothingIsKept(t *testing.T) {
	d := draw(5)
	type call struct {
		c api.CPU
		p api.Pins
		d api.Drive
		s api.CPU
	}
	var calls []call
	for range 3000 {
		x := call{c: someCPU(&d)}
		x.p = lines(api.Pins{Mode: api.Mode(d.below(5)), Data: byte(d.below(256)), EF: flags(d.below(16))}, d.below(8))
		c, p := x.c, x.p
		x.d, x.s = Drive(x.c, x.p.Mode), Step(x.c, x.p)
		if x.c != c || x.p != p {
			t.Fatalf("%v, %v have become %v, %v", c, p, x.c, x.p)
		}
		calls = append(calls, x)
	}
	for k := len(calls) - 1; k >= 0; k-- {
		x := calls[k]
		if dr, s := Drive(x.c, x.p.Mode), Step(x.c, x.p); dr != x.d || s != x.s {
			t.Fatalf("%v, %v: first %v, %v, then %v, %v", x.c, x.p, x.d, x.s, dr, s)
		}
	}
}

// P4.6: from Start on, and from each processor that may be, whatever comes.
func TestMayBeAgain(t *testing.T) {
	d := draw(6)
	begin := append(whole(), Start())
	for len(begin) < 3000 {
		if c := someCPU(&d); twinMayBe(c) {
			begin = append(begin, c)
		}
	}
	for _, c := range begin {
		for k := range 60 {
			p := lines(api.Pins{Data: byte(d.below(256)), EF: flags(d.below(16))}, d.below(8))
			if d.below(3) == 0 || k == 0 {
				p.Mode = allModes[d.below(4)]
			}
			next := Step(c, p)
			if e := Check(next); e != api.OK {
				t.Fatalf("Step(%v, %v) = %v: %d", c, p, next, e)
			}
			c = next
		}
	}
}
