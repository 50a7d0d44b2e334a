package cpu

import (
	"strconv"
	"strings"
	"sync"

	"vesper/api"
	"vesper/bits"
)

// The document's tables of the instructions and of their uses of the bus, in one. Ops; the register that points; what holds (r read, w write, o own); the byte that the processor puts there; what is done, all of it by how things stand ahead of the cycle.
const instructions = `
00     0 r  -    -
01..0f N r  -    D=Data
10..1f N -  -    N+1
20..2f N -  -    N-1
30..3f P r  -    short
40..4f N r  -    D=Data N+1
50..5f N wo D    -
60     X r  -    X+1
61..67 X r  -    X+1
68     X -  -    -
69..6f X w  -    D=Data
70     X r  -    X+1 XP=Data IE=on
71     X r  -    X+1 XP=Data IE=off
72     X r  -    D=Data X+1
73     X wo D    X-1
74     X r  -    AddC
75     X r  -    FromC
76     X -  -    RightC
77     X r  -    LessC
78     X wo T    -
79     2 wo XP   T=XP X=P 2-1
7a     P -  -    Q=low
7b     P -  -    Q=high
7c     P r  -    AddC P+1
7d     P r  -    FromC P+1
7e     P -  -    LeftC
7f     P r  -    LessC P+1
80..8f N o  low  D=low
90..9f N o  high D=high
a0..af N o  D    low=D
b0..bf N o  D    high=D
c0..cf P r  -    long
d0..df N o  17N  P=N
e0..ef N o  17N  X=N
f0     X r  -    Load
f1     X r  -    Or
f2     X r  -    And
f3     X r  -    Xor
f4     X r  -    Add
f5     X r  -    From
f6     X -  -    Right
f7     X r  -    Less
f8     P r  -    Load P+1
f9     P r  -    Or P+1
fa     P r  -    And P+1
fb     P r  -    Xor P+1
fc     P r  -    Add P+1
fd     P r  -    From P+1
fe     P -  -    Left
ff     P r  -    Less P+1
`

// When the branches branch and the skips skip; ! is: not so.
const conditions = `
30 always  31 Q   32 Z   33 DF   34 1   35 2   36 3   37 4
38 never   39 !Q  3a !Z  3b !DF  3c !1  3d !2  3e !3  3f !4
c0 always  c1 Q   c2 Z   c3 DF   c4 never  c5 !Q  c6 !Z  c7 !DF
c8 always  c9 !Q  ca !Z  cb !DF  cc IE     cd Q   ce Z   cf DF
`

const longBranches = "c0 c1 c2 c3 c9 ca cb"

var sumNames = map[string]api.Sum{
	"Load": api.SumLoad, "Or": api.SumOr, "And": api.SumAnd, "Xor": api.SumXor, "Add": api.SumAdd, "AddC": api.SumAddC, "From": api.SumFrom, "FromC": api.SumFromC,
	"Less": api.SumLess, "LessC": api.SumLessC, "Right": api.SumRight, "RightC": api.SumRightC, "Left": api.SumLeft, "LeftC": api.SumLeftC,
}

// rule is a line of the table, and what the table of conditions says of its op.
type rule struct {
	point     string
	holds     string
	puts      string
	does      []string
	condition string
	branch    bool // of long ones
}

func number(s string) int {
	n, err := strconv.ParseInt(s, 16, 0)
	if err != nil {
		panic(err)
	}
	return int(n)
}

// ruleOf is the rule of each op; a table that has not each op once is no table.
var ruleOf = sync.OnceValue(func() [256]rule {
	var all [256]rule
	next := 0
	for line := range strings.Lines(strings.TrimSpace(instructions)) {
		words := strings.Fields(line)
		from, to, many := strings.Cut(words[0], "..")
		if !many {
			to = from
		}
		if number(from) != next {
			panic(line)
		}
		for ; next <= number(to); next++ {
			all[next] = rule{point: words[1], holds: words[2], puts: words[3], does: words[4:]}
		}
	}
	if next != 256 {
		panic(next)
	}
	words := strings.Fields(conditions)
	for i := 0; i < len(words); i += 2 {
		all[number(words[i])].condition = words[i+1]
	}
	for _, w := range strings.Fields(longBranches) {
		all[number(w)].branch = true
	}
	return all
})

func yes(condition string, c api.CPU, p api.Pins) bool {
	if other, not := strings.CutPrefix(condition, "!"); not {
		return !yes(other, c, p)
	}
	return map[string]bool{
		"always": true, "never": false, "Q": c.Q, "Z": c.D == 0, "DF": c.DF, "IE": c.IE,
		"1": p.EF[0], "2": p.EF[1], "3": p.EF[2], "4": p.EF[3],
	}[condition]
}

// twinMayBe, twinDrive and twinStep are the document's words once more, told another way than the program tells them.
func twinMayBe(c api.CPU) bool {
	begins := c.Phase == api.Begin || c.Phase == api.Idle
	return c.P <= 15 && c.X <= 15 && c.Phase >= 1 && c.Phase <= 8 &&
		(c.Phase == api.Second || c.B == 0) &&
		(c.Phase != api.Second || c.Op >= 0xc0 && c.Op <= 0xcf) &&
		(!begins || c.Op == 0)
}

func twinDrive(c api.CPU, m api.Mode) api.Drive {
	if !twinMayBe(c) || m > 3 {
		return api.Drive{}
	}
	if m == api.Reset {
		return api.Drive{Code: 1, Address: c.R[0], Own: true}
	}
	if m == api.Pause {
		d := twinDrive(c, api.Run)
		return api.Drive{Code: d.Code, Address: d.Address}
	}
	if m == api.Load && c.Phase != api.Begin && c.Phase != api.DMAIn {
		return api.Drive{Code: 1, Address: c.R[0], Read: true, Pulse: true}
	}
	switch c.Phase {
	case api.Fetch:
		return api.Drive{Code: 0, Address: c.R[c.P], Read: true, Pulse: true}
	case api.Idle:
		return api.Drive{Code: 1, Address: c.R[0], Read: true, Pulse: true}
	case api.Begin:
		return api.Drive{Code: 1, Address: c.R[0], Pulse: true}
	case api.DMAIn:
		return api.Drive{Code: 2, Address: c.R[0], Write: true, Pulse: true}
	case api.DMAOut:
		return api.Drive{Code: 2, Address: c.R[0], Read: true, Pulse: true}
	case api.Interrupt:
		return api.Drive{Code: 3, Address: c.R[c.Op%16], Pulse: true}
	}
	return twinExecuteDrive(c)
}

func twinExecuteDrive(c api.CPU) api.Drive {
	r := ruleOf()[c.Op]
	d := api.Drive{Code: 1, Pulse: true}
	d.Address = map[string]uint16{"N": c.R[c.Op%16], "X": c.R[c.X], "P": c.R[c.P], "2": c.R[2], "0": c.R[0]}[r.point]
	d.Read, d.Write, d.Own = strings.Contains(r.holds, "r"), strings.Contains(r.holds, "w"), strings.Contains(r.holds, "o")
	d.Data = map[string]byte{
		"D": c.D, "T": c.T, "XP": 16*c.X + c.P, "low": byte(c.R[c.Op%16] % 256), "high": byte(c.R[c.Op%16] / 256), "17N": 17 * (c.Op % 16),
	}[r.puts]
	if c.Op >= 0x61 && c.Op <= 0x67 {
		d.Port = c.Op - 0x60
	}
	if c.Op >= 0x69 && c.Op <= 0x6f {
		d.Port = c.Op - 0x68
	}
	return d
}

func twinStep(c api.CPU, p api.Pins) api.CPU {
	if !twinMayBe(c) || p.Mode > 3 {
		return api.CPU{}
	}
	was := c.Phase
	switch {
	case p.Mode == api.Reset:
		c.Op, c.B, c.Q, c.IE, c.Phase = 0, 0, false, true, api.Begin
		return c
	case p.Mode == api.Pause:
		return c
	case was == api.Begin:
		c.X, c.P, c.R[0] = 0, 0, 0
	case p.Mode == api.Load && was != api.DMAIn:
		c.Op, c.B = 0, 0
	case was == api.Fetch:
		c.Op, c.Phase = p.Data, api.Execute
		c.R[c.P]++
		return c
	case was == api.Execute || was == api.Second:
		c = twinExecute(c, p)
		if was == api.Execute && c.Op/16 == 12 {
			c.Phase = api.Second
			return c
		}
	case was == api.DMAIn || was == api.DMAOut:
		c.R[0]++
	case was == api.Interrupt:
		c.T, c.P, c.X, c.IE = 16*c.X+c.P, 1, 2, false
	}
	c.Phase = twinAsked(c, was, p)
	if c.Phase == api.Idle {
		c.Op = 0
	}
	return c
}

// twinAsked: c as it stands behind the cycle, was the phase of that.
func twinAsked(c api.CPU, was api.Phase, p api.Pins) api.Phase {
	if p.DMAIn {
		return api.DMAIn
	}
	if p.Mode == api.Load {
		return api.Idle
	}
	if p.DMAOut {
		return api.DMAOut
	}
	if p.Interrupt && c.IE && was != api.Interrupt && was != api.Begin {
		return api.Interrupt
	}
	if was == api.Idle || was == api.Execute && c.Op == 0 {
		return api.Idle
	}
	return api.Fetch
}

func twinExecute(c api.CPU, p api.Pins) api.CPU {
	ahead, r := c, ruleOf()[c.Op]
	for _, what := range r.does {
		if s, ok := sumNames[what]; ok {
			b := p.Data
			if strings.HasPrefix(what, "Right") || strings.HasPrefix(what, "Left") {
				b = 0
			}
			c.D, c.DF = bits.Do(s, ahead.D, b, ahead.DF)
			continue
		}
		c = twinDeed(c, ahead, p, what, r)
	}
	return c
}

func twinDeed(c, ahead api.CPU, p api.Pins, what string, r rule) api.CPU {
	n := ahead.Op % 16
	switch what {
	case "-":
	case "N+1":
		c.R[n]++
	case "N-1":
		c.R[n]--
	case "X+1":
		c.R[ahead.X]++
	case "X-1":
		c.R[ahead.X]--
	case "P+1":
		c.R[ahead.P]++
	case "2-1":
		c.R[2]--
	case "D=Data":
		c.D = p.Data
	case "D=low":
		c.D = byte(ahead.R[n] % 256)
	case "D=high":
		c.D = byte(ahead.R[n] / 256)
	case "low=D":
		c.R[n] = ahead.R[n]/256*256 + uint16(ahead.D)
	case "high=D":
		c.R[n] = ahead.R[n]%256 + uint16(ahead.D)*256
	case "XP=Data":
		c.X, c.P = p.Data/16, p.Data%16
	case "T=XP":
		c.T = 16*ahead.X + ahead.P
	case "X=P":
		c.X = ahead.P
	case "P=N":
		c.P = n
	case "X=N":
		c.X = n
	case "IE=on", "IE=off":
		c.IE = what == "IE=on"
	case "Q=high", "Q=low":
		c.Q = what == "Q=high"
	case "short", "long":
		c = twinBranch(c, p, r, what == "long")
	default:
		panic(what)
	}
	return c
}

func twinBranch(c api.CPU, p api.Pins, r rule, long bool) api.CPU {
	here, so := &c.R[c.P], yes(r.condition, c, p)
	switch {
	case long && r.branch && c.Phase == api.Execute:
		c.B = p.Data
		*here++
	case long && r.branch && so:
		*here = uint16(c.B)*256 + uint16(p.Data)
	case long && !r.branch && !so:
	case !long && so:
		*here = *here/256*256 + uint16(p.Data)
	default:
		*here++
	}
	if c.Phase == api.Second {
		c.B = 0
	}
	return c
}
