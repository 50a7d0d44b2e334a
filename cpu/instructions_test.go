package cpu

import (
	"testing"

	"vesper/api"
	"vesper/code"
)

// alike holds Drive and Step against the document's tables.
func alike(t *testing.T, c api.CPU, p api.Pins) {
	t.Helper()
	if d, want := Drive(c, p.Mode), twinDrive(c, p.Mode); d != want {
		t.Fatalf("Drive(%v, %d) = %v, wanted %v", c, p.Mode, d, want)
	}
	if s, want := Step(c, p), twinStep(c, p); s != want {
		t.Fatalf("Step(%v, %v) = %v, wanted %v", c, p, s, want)
	}
}

// fills are registers at their edges: all at ffff and at 0, at the ends of a page, and each another one.
func fills() [][16]uint16 {
	all := make([][16]uint16, 4)
	for k := range 16 {
		all[1][k] = 0xffff
		all[2][k] = uint16(k)<<12 | 0x0fff - uint16(k&1)
	}
	all[3] = distinct(api.Fetch, 0).R
	return all
}

// P4.3, P4.4: all 256 ops in each of their cycles, with P, X, N and 2 that are one register or not, in each mode.
func TestAllOps(t *testing.T) {
	d := draw(43)
	for n := range 256 {
		op := byte(n)
		numbers := []byte{0, 2, op & 15, 7, 15}
		for _, phase := range []api.Phase{api.Execute, api.Second} {
			for _, r := range fills() {
				for k := range len(numbers) * len(numbers) * 8 {
					c := api.CPU{R: r, P: numbers[k%5], X: numbers[k/5%5], D: byte(d.below(256)), DF: d.flag(), T: byte(d.below(256)), IE: d.flag(), Q: d.flag(), Op: op, Phase: phase}
					if phase == api.Second {
						c.B = byte(d.below(256))
					}
					p := lines(api.Pins{Data: byte(d.below(256)), EF: flags(d.below(16))}, d.below(8))
					if k >= 100 {
						p.Mode = allModes[k%4]
					}
					alike(t, c, p)
				}
			}
		}
	}
}

// P4.3, P4.4: processors and pins of all kinds.
func TestAnyCycle(t *testing.T) {
	d := draw(44)
	for range 200000 {
		c := someCPU(&d)
		alike(t, c, lines(api.Pins{Mode: api.Mode(d.below(5)), Data: byte(d.below(256)), EF: flags(d.below(16))}, d.below(8)))
	}
}

// P4.4: the sums, with every D and bytes at their edges.
func TestSumsOfD(t *testing.T) {
	for n := 0x70; n < 0x100; n++ {
		if n == 0x80 {
			n = 0xf0
		}
		c := distinct(api.Execute, byte(n))
		for d := range 256 {
			for _, data := range []byte{0, 1, 0x7f, 0x80, 0xff, byte(d), byte(d + 1), byte(d - 1)} {
				c.D, c.DF = byte(d), !c.DF
				alike(t, c, api.Pins{Data: data})
				c.DF = !c.DF
				alike(t, c, api.Pins{Data: data})
			}
		}
	}
}

// P4.4: one instruction of each row, told by itself. distinct has R2 2354, R3 3375, R9 (P) 943b, RA (X) a45c, D 4d, T 5e, DF off.
func TestInstructionsByThemselves(t *testing.T) {
	for _, x := range []struct {
		op, data byte
		makes    func(c *api.CPU)
	}{
		{0x03, 0x71, func(c *api.CPU) { c.D = 0x71 }},
		{0x13, 0x71, func(c *api.CPU) { c.R[3] = 0x3376 }},
		{0x23, 0x71, func(c *api.CPU) { c.R[3] = 0x3374 }},
		{0x43, 0x71, func(c *api.CPU) { c.D, c.R[3] = 0x71, 0x3376 }},
		{0x53, 0x71, func(c *api.CPU) {}},
		{0x60, 0x71, func(c *api.CPU) { c.R[10] = 0xa45d }},
		{0x68, 0x71, func(c *api.CPU) {}},
		{0x70, 0x71, func(c *api.CPU) { c.R[10], c.X, c.P = 0xa45d, 7, 1 }},
		{0x71, 0x71, func(c *api.CPU) { c.R[10], c.X, c.P, c.IE = 0xa45d, 7, 1, false }},
		{0x72, 0x71, func(c *api.CPU) { c.D, c.R[10] = 0x71, 0xa45d }},
		{0x73, 0x71, func(c *api.CPU) { c.R[10] = 0xa45b }},
		{0x74, 0xb3, func(c *api.CPU) { c.D, c.DF = 0x00, true }},
		{0x75, 0x71, func(c *api.CPU) { c.D, c.DF = 0x23, true }},
		{0x76, 0x71, func(c *api.CPU) { c.D, c.DF = 0x26, true }},
		{0x77, 0x71, func(c *api.CPU) { c.D, c.DF = 0xdb, false }},
		{0x78, 0x71, func(c *api.CPU) {}},
		{0x79, 0x71, func(c *api.CPU) { c.T, c.X, c.R[2] = 0xa9, 9, 0x2353 }},
		{0x7a, 0x71, func(c *api.CPU) { c.Q = false }},
		{0x7b, 0x71, func(c *api.CPU) { c.Q = true }},
		{0x7c, 0x71, func(c *api.CPU) { c.D, c.R[9] = 0xbe, 0x943c }},
		{0x7d, 0x71, func(c *api.CPU) { c.D, c.DF, c.R[9] = 0x23, true, 0x943c }},
		{0x7e, 0x71, func(c *api.CPU) { c.D = 0x9a }},
		{0x7f, 0x71, func(c *api.CPU) { c.D, c.R[9] = 0xdb, 0x943c }},
		{0x83, 0x71, func(c *api.CPU) { c.D = 0x75 }},
		{0x93, 0x71, func(c *api.CPU) { c.D = 0x33 }},
		{0xa3, 0x71, func(c *api.CPU) { c.R[3] = 0x334d }},
		{0xb3, 0x71, func(c *api.CPU) { c.R[3] = 0x4d75 }},
		{0xd3, 0x71, func(c *api.CPU) { c.P = 3 }},
		{0xe3, 0x71, func(c *api.CPU) { c.X = 3 }},
		{0xf0, 0x71, func(c *api.CPU) { c.D = 0x71 }},
		{0xf1, 0x71, func(c *api.CPU) { c.D = 0x7d }},
		{0xf2, 0x71, func(c *api.CPU) { c.D = 0x41 }},
		{0xf3, 0x71, func(c *api.CPU) { c.D = 0x3c }},
		{0xf4, 0x71, func(c *api.CPU) { c.D = 0xbe }},
		{0xf5, 0x71, func(c *api.CPU) { c.D, c.DF = 0x24, true }},
		{0xf6, 0x71, func(c *api.CPU) { c.D, c.DF = 0x26, true }},
		{0xf7, 0x71, func(c *api.CPU) { c.D = 0xdc }},
		{0xf8, 0x71, func(c *api.CPU) { c.D, c.R[9] = 0x71, 0x943c }},
		{0xf9, 0x71, func(c *api.CPU) { c.D, c.R[9] = 0x7d, 0x943c }},
		{0xfa, 0x71, func(c *api.CPU) { c.D, c.R[9] = 0x41, 0x943c }},
		{0xfb, 0x71, func(c *api.CPU) { c.D, c.R[9] = 0x3c, 0x943c }},
		{0xfc, 0x71, func(c *api.CPU) { c.D, c.R[9] = 0xbe, 0x943c }},
		{0xfd, 0x71, func(c *api.CPU) { c.D, c.DF, c.R[9] = 0x24, true, 0x943c }},
		{0xfe, 0x71, func(c *api.CPU) { c.D = 0x9a }},
		{0xff, 0x71, func(c *api.CPU) { c.D, c.R[9] = 0xdc, 0x943c }},
	} {
		for _, q := range []bool{false, true} {
			c := distinct(api.Execute, x.op)
			c.Q = q
			want := c
			want.Phase = api.Fetch
			x.makes(&want)
			if s := Step(c, api.Pins{Data: x.data}); s != want {
				t.Errorf("%02x: %v, wanted %v", x.op, s, want)
			}
		}
	}
}

// P4.4: each short branch, both ways, with all that it does not ask changed about.
func TestShortBranches(t *testing.T) {
	for n := 0x30; n <= 0x3f; n++ {
		ways := map[uint16]bool{}
		everyCondition(func(c api.CPU, p api.Pins) {
			c.Op, c.Phase, p.Data = byte(n), api.Execute, 0x42
			went := map[bool]uint16{true: 0x9442, false: 0x943c}[yes(ruleOf()[n].condition, c, p)]
			want := c
			want.R[9], want.Phase = went, api.Fetch
			if s := Step(c, p); s != want {
				t.Fatalf("%02x: %v, wanted %v", n, s, want)
			}
			ways[went] = true
		})
		if both := n != 0x30 && n != 0x38; len(ways) == 2 != both {
			t.Errorf("%02x has gone %v", n, ways)
		}
	}
}

// everyCondition goes through all that a branch may ask.
func everyCondition(visit func(c api.CPU, p api.Pins)) {
	for _, d := range []byte{0, 1, 0x80, 0xff} {
		for k := range 128 {
			c := distinct(api.Fetch, 0)
			c.D, c.DF, c.Q, c.IE = d, k&16 != 0, k&32 != 0, k&64 != 0
			visit(c, api.Pins{EF: flags(k)})
		}
	}
}

// P4.4: a short branch stays on the page of its operand, wherever that lies, and goes on to the next page if it does not branch.
func TestShortBranchesAtThePagesEnd(t *testing.T) {
	for _, x := range []struct {
		op       byte
		at, want uint16
	}{
		{0x30, 0x12ff, 0x1207}, {0x38, 0x12ff, 0x1300}, {0x30, 0x1300, 0x1307}, {0x30, 0xffff, 0xff07}, {0x38, 0xffff, 0x0000}, {0x30, 0x0000, 0x0007},
	} {
		c := distinct(api.Execute, x.op)
		c.R[9] = x.at
		if s := Step(c, api.Pins{Data: 7}); s.R[9] != x.want {
			t.Errorf("%02x at %04x: %04x", x.op, x.at, s.R[9])
		}
	}
}

// P4.4: each long branch and skip, both ways, in both cycles; R(P) runs over at ffff, too.
func TestLongOnes(t *testing.T) {
	for n := 0xc0; n <= 0xcf; n++ {
		r := ruleOf()[n]
		ways := map[uint16]bool{}
		everyCondition(func(c api.CPU, p api.Pins) {
			for _, at := range []uint16{0x943b, 0xfffe, 0xffff} {
				c.Op, c.Phase, c.R[9] = byte(n), api.Execute, at
				so := yes(r.condition, c, p)
				first, second := c, c
				first.Phase, second.Phase = api.Second, api.Fetch
				switch {
				case r.branch && so:
					first.B, first.R[9], second.R[9] = 0x87, at+1, 0x8765
				case r.branch:
					first.B, first.R[9], second.R[9] = 0x87, at+1, at+2
				case so:
					first.R[9], second.R[9] = at+1, at+2
				}
				p.Data = 0x87
				s := Step(c, p)
				if s != first {
					t.Fatalf("%02x at %04x: %v, wanted %v", n, at, s, first)
				}
				p.Data = 0x65
				if s = Step(s, p); s != second {
					t.Fatalf("%02x at %04x, then: %v, wanted %v", n, at, s, second)
				}
				if at == 0x943b {
					ways[s.R[9]] = true
				}
			}
		})
		if both := n != 0xc0 && n != 0xc4 && n != 0xc8; len(ways) == 2 != both {
			t.Errorf("%02x has gone %v", n, ways)
		}
	}
}

// P4.4: B is 0 behind the second cycle, of skips and NOP too.
func TestBBehindSecond(t *testing.T) {
	for n := 0xc0; n <= 0xcf; n++ {
		c := distinct(api.Second, byte(n))
		c.B = 0xff
		if s := Step(c, api.Pins{Data: 0xee}); s.B != 0 {
			t.Errorf("%02x: B %02x", n, s.B)
		}
	}
}

// P4.3, P4.4: each port, out and in.
func TestPorts(t *testing.T) {
	for port := byte(1); port <= 7; port++ {
		c := distinct(api.Execute, 0x60+port)
		want := c
		want.R[10], want.Phase = 0xa45d, api.Fetch
		if d := Drive(c, api.Run); d != (api.Drive{Code: api.S1, Address: 0xa45c, Read: true, Port: port, Pulse: true}) {
			t.Errorf("OUT %d: %v", port, d)
		}
		if s := Step(c, api.Pins{Data: 0x99}); s != want {
			t.Errorf("behind OUT %d: %v", port, s)
		}
		c = distinct(api.Execute, 0x68+port)
		want = c
		want.D, want.Phase = 0x99, api.Fetch
		if d := Drive(c, api.Run); d != (api.Drive{Code: api.S1, Address: 0xa45c, Write: true, Port: port, Pulse: true}) {
			t.Errorf("INP %d: %v", port, d)
		}
		if s := Step(c, api.Pins{Data: 0x99}); s != want {
			t.Errorf("behind INP %d: %v", port, s)
		}
	}
	for _, op := range []byte{0x60, 0x68} {
		if d := Drive(distinct(api.Execute, op), api.Run); d.Port != 0 || d.Write || d.Own || d.Read != (op == 0x60) {
			t.Errorf("%02x: %v", op, d)
		}
	}
}

// P4.3, P4.4: MARK writes what T becomes, at R2; SAV writes T at R(X).
func TestMarkAndSav(t *testing.T) {
	for p := range byte(16) {
		for x := range byte(16) {
			c := distinct(api.Execute, 0x79)
			c.P, c.X, c.R[2] = p, x, 0x0000
			want := c
			want.T, want.X, want.R[2], want.Phase = 16*x+p, p, 0xffff, api.Fetch
			if d := Drive(c, api.Run); d != (api.Drive{Code: api.S1, Address: 0x0000, Write: true, Own: true, Data: 16*x + p, Pulse: true}) {
				t.Fatalf("MARK, X %d, P %d: %v", x, p, d)
			}
			if s := Step(c, api.Pins{Data: 0x11}); s != want {
				t.Fatalf("behind MARK, X %d, P %d: %v", x, p, s)
			}
			c.Op = 0x78
			want = c
			want.Phase = api.Fetch
			if d := Drive(c, api.Run); d != (api.Drive{Code: api.S1, Address: c.R[x], Write: true, Own: true, Data: 0x5e, Pulse: true}) {
				t.Fatalf("SAV, X %d, P %d: %v", x, p, d)
			}
			if s := Step(c, api.Pins{Data: 0x11}); s != want {
				t.Fatalf("behind SAV, X %d, P %d: %v", x, p, s)
			}
		}
	}
}

// P4.4: RET and DIS move the X on that stood ahead, whatever comes into X and P.
func TestRetAndDis(t *testing.T) {
	for x := range byte(16) {
		for data := range 256 {
			for _, ie := range []bool{false, true} {
				c := distinct(api.Execute, 0x70)
				c.X, c.IE, c.R[x] = x, ie, 0xffff
				want := c
				want.X, want.P, want.R[x], want.IE, want.Phase = byte(data/16), byte(data%16), 0x0000, true, api.Fetch
				if s := Step(c, api.Pins{Data: byte(data)}); s != want {
					t.Fatalf("RET of %02x: %v, wanted %v", data, s, want)
				}
				c.Op, want.Op, want.IE = 0x71, 0x71, false
				if s := Step(c, api.Pins{Data: byte(data)}); s != want {
					t.Fatalf("DIS of %02x: %v, wanted %v", data, s, want)
				}
			}
		}
	}
}

// P4.4: registers go on from ffff and back from 0, each of the sixteen, with the processor's own counter among them.
func TestRegistersRunOver(t *testing.T) {
	for n := range byte(16) {
		for _, x := range []struct {
			op       byte
			at, want uint16
		}{
			{0x10 + n, 0xffff, 0x0000}, {0x20 + n, 0x0000, 0xffff}, {0x40 + n, 0xffff, 0x0000}, {0x10 + n, 0x00ff, 0x0100}, {0x20 + n, 0x0100, 0x00ff},
			{0x60, 0xffff, 0x0000}, {0x61, 0xffff, 0x0000}, {0x72, 0xffff, 0x0000}, {0x73, 0x0000, 0xffff},
			{0x38, 0xffff, 0x0000}, {0x7c, 0xffff, 0x0000}, {0xf8, 0xffff, 0x0000}, {0xc8, 0xffff, 0x0000}, {0xc0, 0xffff, 0x0000},
		} {
			c := distinct(api.Execute, x.op)
			c.P, c.X, c.R[n] = n, n, x.at
			want := c.R
			want[n] = x.want
			if s := Step(c, api.Pins{Data: 0x3a}); s.R != want {
				t.Errorf("%02x, R%x at %04x: %04x", x.op, n, x.at, s.R)
			}
		}
		f := distinct(api.Fetch, 0)
		f.P, f.R[n] = n, 0xffff
		if s := Step(f, api.Pins{Data: 0x3a}); s.R[n] != 0 {
			t.Errorf("a fetch at ffff: %04x", s.R[n])
		}
	}
	for _, phase := range []api.Phase{api.DMAIn, api.DMAOut} {
		c := distinct(phase, 0x12)
		c.R[0] = 0xffff
		if s := Step(c, api.Pins{Data: 0x3a}); s.R[0] != 0 {
			t.Errorf("DMA at ffff: %04x", s.R[0])
		}
	}
}

// P4.8: where the byte on the bus counts, the flags, the requests.
func TestWhatStepHangsOn(t *testing.T) {
	for n := range 256 {
		for _, phase := range allPhases {
			for _, mode := range allModes {
				c := distinct(phase, byte(n))
				if !twinMayBe(c) {
					continue
				}
				hangsOn(t, c, mode)
			}
		}
	}
}

func hangsOn(t *testing.T, c api.CPU, mode api.Mode) {
	t.Helper()
	d := Drive(c, mode)
	first := Step(c, api.Pins{Mode: mode})
	executes := mode == api.Run && c.Phase == api.Execute
	inp := executes && c.Op >= 0x69 && c.Op <= 0x6f
	fetch := mode == api.Run && c.Phase == api.Fetch
	flagged := executes && (c.Op >= 0x34 && c.Op <= 0x37 || c.Op >= 0x3c && c.Op <= 0x3f)
	still := mode == api.Reset || mode == api.Pause || fetch || executes && c.Op >= 0xc0 && c.Op <= 0xcf
	for data := range 256 {
		if s := Step(c, api.Pins{Mode: mode, Data: byte(data)}); s != first && !fetch && !inp && !(d.Code == api.S1 && d.Read) {
			t.Fatalf("%v, mode %d, hangs on %02x", c, mode, data)
		}
	}
	for k := range 16 {
		if s := Step(c, api.Pins{Mode: mode, EF: flags(k)}); s != first && !flagged {
			t.Fatalf("%v, mode %d, hangs on EF %d", c, mode, k)
		}
		if s := Step(c, lines(api.Pins{Mode: mode}, k)); s != first && still {
			t.Fatalf("%v, mode %d, hangs on requests %d", c, mode, k)
		}
	}
}

// P4.9: no register but those that the row names, and the counter goes on by the instruction's bytes.
func TestRegistersThatAreNamed(t *testing.T) {
	for n := range 256 {
		op, low := byte(n), byte(n&15)
		if low == 2 || low == 9 || low == 10 {
			continue // R(N) is to be none of R2, R(P), R(X)
		}
		c := distinct(api.Fetch, 0)
		c.D, c.DF, c.Q = 0xe1, true, true
		at := c.R[9]
		s := Step(c, api.Pins{Data: op})
		for range code.Info(op).Cycles - 1 {
			s = Step(s, api.Pins{Data: 0xc7})
		}
		named := byte(16)
		switch op >> 4 {
		case 0x1, 0x2, 0x4, 0xa, 0xb:
			named = low
		case 0x6:
			if low < 8 {
				named = 10
			}
		case 0x7:
			if low <= 3 {
				named = 10
			}
		}
		for k := range byte(16) {
			if k != 9 && (s.R[k] != c.R[k]) != (k == named) {
				t.Errorf("%02x: R%x %04x is %04x", op, k, c.R[k], s.R[k])
			}
		}
		moves := op>>4 == 0x3 && op != 0x38 || op>>4 == 0xc // what branches and skips do stands above
		if goes := uint16(code.Info(op).Bytes); !moves && op != 0x38 && s.R[9] != at+goes {
			t.Errorf("%02x: R(P) %04x is %04x", op, at, s.R[9])
		}
	}
}

// P4.9: branches that do not branch, and skips that do not skip, go on by their bytes; MARK names R2.
func TestCounterOfBranches(t *testing.T) {
	for n := 0x30; n <= 0xcf; n++ {
		if n == 0x40 {
			n = 0xc0
		}
		everyCondition(func(c api.CPU, p api.Pins) {
			if yes(ruleOf()[n].condition, c, p) || n == 0x38 {
				return
			}
			s := c
			for _, p.Data = range []byte{byte(n), 0x11, 0x22}[:code.Info(byte(n)).Cycles] {
				s = Step(s, p)
			}
			if s.R[9] != c.R[9]+uint16(code.Info(byte(n)).Bytes) || s.Phase != api.Fetch {
				t.Fatalf("%02x: %v", n, s)
			}
		})
	}
	c := distinct(api.Execute, 0x79)
	s := Step(c, api.Pins{})
	c.R[2]--
	if s.R != c.R {
		t.Errorf("MARK: %04x, wanted %04x", s.R, c.R)
	}
}
