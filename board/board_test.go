package board

import (
	"bytes"
	"fmt"
	"math"
	"slices"
	"testing"

	"vesper/api"
)

// rom is 512 bytes that begin with these.
func rom(b ...byte) []byte {
	r := make([]byte, 512)
	copy(r, b)
	return r
}

// pattern is so many bytes, of which those 256 or 512 apart differ.
func pattern(size, from int) []byte {
	b := make([]byte, size)
	for k := range b {
		b[k] = byte(k*7 + k>>8*13 + from)
	}
	return b
}

func mustNew(t *testing.T, ram int, rom, image []byte) *Board {
	t.Helper()
	b, e := New(ram, rom, image)
	if b == nil || e != api.OK {
		t.Fatalf("New(%d, %d bytes, %d bytes) = %v, %d", ram, len(rom), len(image), b != nil, e)
	}
	return b
}

func mustFrom(t *testing.T, s api.Board) *Board {
	t.Helper()
	b, e := From(s)
	if b == nil || e != api.OK {
		t.Fatalf("From(%v, ..) = %v, %d", s.CPU, b != nil, e)
	}
	return b
}

// sameState says whether two machines stand alike; nil and empty lists are the same.
func sameState(a, b api.Board) bool {
	return a.CPU == b.CPU && a.Raster == b.Raster && a.Pad == b.Pad && a.Latch == b.Latch && a.Cycles == b.Cycles &&
		bytes.Equal(a.RAM, b.RAM) && bytes.Equal(a.ROM, b.ROM)
}

// brief is a machine without its bytes, for what a test tells.
func brief(s api.Board) string {
	return fmt.Sprintf("%v %v pad %d latch %v, %d and %d bytes, %d cycles", s.CPU, s.Raster, s.Pad.Latch, s.Latch, len(s.RAM), len(s.ROM), s.Cycles)
}

// stand tells where a machine stands otherwise than wanted.
func stand(t *testing.T, what string, b *Board, want api.Board) {
	t.Helper()
	if got := b.State(); !sameState(got, want) {
		t.Fatalf("%s: State() = %s, wanted %s (or other bytes)", what, brief(got), brief(want))
	}
}

// odd is a machine of which nothing is as it is at power on.
func odd() api.Board {
	return api.Board{
		CPU: api.CPU{
			R: [16]uint16{0x123, 0x4567, 0x7ff, 0x800, 0xffff, 0x8001, 6, 7, 8, 9, 10, 11, 12, 13, 14, 15},
			D: 0x5a, DF: true, P: 3, X: 2, T: 0x91, Q: true, Op: 0xc3, B: 0x77, Phase: api.Second,
		},
		Raster: api.Raster{Line: 100, Cycle: 9, On: true, Got: 5},
		Pad:    api.Pad{Latch: 11},
		RAM:    pattern(4096, 5),
		ROM:    pattern(512, 90),
		Cycles: 1<<40 + 12345,
	}
}

// scribble writes over a list, and over the room behind its end.
func scribble(b []byte) {
	b = b[:cap(b)]
	for k := range b {
		b[k] ^= 0xff
	}
}

// P8.1: each size of RAM that store.New takes gives a machine at power on; of each other one nothing.
func TestNewOfEverySize(t *testing.T) {
	taken := 0
	for size := -2049; size <= 36000; size++ {
		if size < 2048 || size > 32768 || size%2048 != 0 {
			if b, e := New(size, rom(), nil); b != nil || e != api.ErrStoreSize {
				t.Fatalf("New(%d, ..) = %v, %d, wanted ErrStoreSize", size, b != nil, e)
			}
			continue
		}
		taken++
		for _, n := range []int{0, 1, 700, size - 1, size} {
			image := pattern(n, 3)
			want := api.Board{
				CPU:   api.CPU{IE: true, Phase: api.Begin},
				Latch: true,
				RAM:   append(slices.Clone(image), make([]byte, size-n)...),
				ROM:   pattern(512, 77),
			}
			stand(t, fmt.Sprintf("New(%d, .., %d bytes)", size, n), mustNew(t, size, pattern(512, 77), image), want)
		}
	}
	if taken != 16 {
		t.Errorf("%d sizes were taken", taken)
	}
}

// P8.1: what may not be, and which error comes first.
func TestNewOfWrongOnes(t *testing.T) {
	for _, x := range []struct {
		ram, rom, image int
		want            api.Errno
	}{
		{2048, 512, 0, api.OK},
		{2048, 512, 2048, api.OK},
		{32768, 512, 32768, api.OK},
		{2047, 512, 0, api.ErrStoreSize},
		{0, 512, 0, api.ErrStoreSize},
		{-2048, 512, 0, api.ErrStoreSize},
		{34816, 512, 0, api.ErrStoreSize},
		{math.MaxInt, 512, 0, api.ErrStoreSize},
		{math.MinInt, 512, 0, api.ErrStoreSize},
		{2048, 511, 0, api.ErrStoreROM},
		{2048, 513, 0, api.ErrStoreROM},
		{2048, 0, 0, api.ErrStoreROM},
		{2048, 512, 2049, api.ErrStoreRoom},
		{32768, 512, 32769, api.ErrStoreRoom},
		{2047, 511, 2048, api.ErrStoreSize},
		{2047, 512, 2048, api.ErrStoreSize},
		{2048, 511, 2049, api.ErrStoreROM},
	} {
		if b, e := New(x.ram, make([]byte, x.rom), make([]byte, x.image)); e != x.want || (b != nil) != (x.want == api.OK) {
			t.Errorf("New(%d, %d bytes, %d bytes) = %v, %d, wanted %d", x.ram, x.rom, x.image, b != nil, e, x.want)
		}
	}
	if b, e := New(2048, nil, nil); b != nil || e != api.ErrStoreROM {
		t.Errorf("New(2048, nil, nil) = %v, %d", b != nil, e)
	}
	stand(t, "no image at all", mustNew(t, 2048, rom(), nil), mustNew(t, 2048, rom(), []byte{}).State())
}

// faults are what may be wrong with a machine, in the order in which it is told.
func faults() []struct {
	want api.Errno
	do   []func(s *api.Board)
} {
	return []struct {
		want api.Errno
		do   []func(s *api.Board)
	}{
		{api.ErrStoreSize, []func(s *api.Board){
			func(s *api.Board) { s.RAM = nil },
			func(s *api.Board) { s.RAM = []byte{} },
			func(s *api.Board) { s.RAM = s.RAM[:2047] },
			func(s *api.Board) { s.RAM = s.RAM[:2049] },
			func(s *api.Board) { s.RAM = make([]byte, 34816) },
		}},
		{api.ErrStoreROM, []func(s *api.Board){
			func(s *api.Board) { s.ROM = nil },
			func(s *api.Board) { s.ROM = s.ROM[:511] },
			func(s *api.Board) { s.ROM = make([]byte, 513) },
		}},
		{api.ErrCPUState, []func(s *api.Board){
			func(s *api.Board) { s.CPU.P = 16 },
			func(s *api.Board) { s.CPU.X = 16 },
			func(s *api.Board) { s.CPU.Phase = 0 },
			func(s *api.Board) { s.CPU.Phase = 9 },
			func(s *api.Board) { s.CPU.Op = 0x30 },
			func(s *api.Board) { s.CPU.Phase = api.Fetch },
			func(s *api.Board) { s.CPU.Phase, s.CPU.B = api.Begin, 0 },
		}},
		{api.ErrPixieState, []func(s *api.Board){
			func(s *api.Board) { s.Raster.Line = -1 },
			func(s *api.Board) { s.Raster.Line = 262 },
			func(s *api.Board) { s.Raster.Line = 79 },
			func(s *api.Board) { s.Raster.Cycle = -1 },
			func(s *api.Board) { s.Raster.Cycle = 14 },
			func(s *api.Board) { s.Raster.Got = -1 },
			func(s *api.Board) { s.Raster.Got = 8 },
		}},
		{api.ErrArg, []func(s *api.Board){
			func(s *api.Board) { s.Pad.Latch = 16 },
			func(s *api.Board) { s.Pad.Latch = 255 },
		}},
	}
}

// P8.2: each thing that may be wrong with a machine, alone.
func TestCheckOfWrongOnes(t *testing.T) {
	for k, f := range faults() {
		for i, do := range f.do {
			s := odd()
			do(&s)
			if e := Check(s); e != f.want {
				t.Errorf("fault %d, %d: Check = %d, wanted %d", k, i, e, f.want)
			}
			if b, e := From(s); b != nil || e != f.want {
				t.Errorf("fault %d, %d: From = %v, %d, wanted %d", k, i, b != nil, e, f.want)
			}
		}
	}
	if e := Check(api.Board{}); e != api.ErrStoreSize {
		t.Errorf("Check of noughts = %d", e)
	}
}

// P8.2: where several things are wrong, the first one is told.
func TestFirstFault(t *testing.T) {
	for set := range 32 {
		s, want := odd(), api.OK
		for k, f := range faults() {
			if set>>k&1 == 0 {
				continue
			}
			f.do[set%len(f.do)](&s)
			if want == api.OK {
				want = f.want
			}
		}
		b, e := From(s)
		if Check(s) != want || e != want || (b != nil) != (want == api.OK) {
			t.Errorf("faults %05b: Check = %d, From = %v, %d, wanted %d", set, Check(s), b != nil, e, want)
		}
	}
}

// standing are machines that may be: odd ones, with the edges of each part.
func standing() []api.Board {
	var l []api.Board
	add := func(do func(s *api.Board)) {
		s := odd()
		do(&s)
		l = append(l, s)
	}
	add(func(s *api.Board) {})
	for size := 2048; size <= 32768; size += 2048 {
		add(func(s *api.Board) { s.RAM = pattern(size, 8) })
	}
	for key := range byte(16) {
		add(func(s *api.Board) { s.Pad.Latch = key })
	}
	for _, n := range []uint64{0, 1, math.MaxInt64, math.MaxInt64 + 1, math.MaxUint64} {
		add(func(s *api.Board) { s.Cycles = n })
	}
	for _, x := range []struct{ line, cycle, got int }{{0, 0, 0}, {261, 13, 0}, {80, 2, 0}, {207, 13, 8}} {
		add(func(s *api.Board) { s.Raster = api.Raster{Line: x.line, Cycle: x.cycle, Got: x.got} })
	}
	for phase := api.Fetch; phase <= api.Interrupt; phase++ {
		if phase != api.Second {
			add(func(s *api.Board) { s.CPU.Phase, s.CPU.B, s.CPU.Op = phase, 0, 0 })
		}
	}
	add(func(s *api.Board) { s.Latch = true })
	add(func(s *api.Board) { s.CPU.IE, s.CPU.Q, s.CPU.DF = true, false, false })
	return l
}

// P8.2: a machine stands as it was handed to From; From of its State answers alike.
func TestFromAndState(t *testing.T) {
	for k, s := range standing() {
		if e := Check(s); e != api.OK {
			t.Fatalf("machine %d: Check = %d", k, e)
		}
		b := mustFrom(t, s)
		stand(t, fmt.Sprint("machine ", k), b, s)
		again := mustFrom(t, b.State())
		for n, span := range someSpans() {
			if got, want := again.Step(span), b.Step(span); got != want {
				t.Fatalf("machine %d, cycle %d: %v, wanted %v", k, n, got, want)
			}
		}
		stand(t, fmt.Sprint("machine, gone on, ", k), again, b.State())
	}
}

// someSpans are cycles with all lines, each for itself and together.
func someSpans() []api.Span {
	l := []api.Span{
		{}, {Keys: 0xffff}, {Tape: true}, {Flag: true}, {DMAIn: true, Bus: 0x3c}, {DMAOut: true}, {Interrupt: true},
		{Wait: true, Bus: 0x99}, {DMAIn: true, DMAOut: true, Interrupt: true, Bus: 0x42}, {Bus: 0x17}, {},
	}
	return append(l, append([]api.Span{{Clear: true}, {Clear: true, Wait: true, DMAIn: true, Bus: 0xe7}, {Clear: true, Wait: true}}, l...)...)
}

// P8.2, R5: what State answers is the caller's; neither the machine nor another answer sees what is done to it, and no two lists of one share room.
func TestStateIsNew(t *testing.T) {
	b := mustFrom(t, odd())
	kept, s := b.State(), b.State()
	scribble(s.RAM)
	stand(t, "RAM written over", b, odd())
	if !bytes.Equal(s.ROM, odd().ROM) {
		t.Error("ROM of an answer changed with its RAM")
	}
	scribble(s.ROM)
	s.CPU, s.Raster, s.Pad, s.Latch, s.Cycles = api.CPU{}, api.Raster{}, api.Pad{}, true, 0
	stand(t, "all written over", b, odd())
	if !sameState(kept, odd()) {
		t.Error("another answer changed")
	}
	b.Step(api.Span{Clear: true})
	run(t, b, api.Span{Cycles: 400, DMAIn: true, Bus: 0x21})
	if !sameState(kept, odd()) {
		t.Error("an answer changed with its machine")
	}
}

// R5: lists that were handed in are neither changed nor kept, the room behind their ends neither.
func TestHandedInIsNotKept(t *testing.T) {
	room := func(b []byte) []byte { return append(make([]byte, 0, len(b)+100), b...) }
	image, firm := room(pattern(2000, 1)), room(pattern(512, 2))
	b := mustNew(t, 2048, firm, image)
	at := b.State()
	scribble(image)
	scribble(firm)
	stand(t, "New's lists written over", b, at)

	s := odd()
	s.RAM, s.ROM = room(s.RAM), room(s.ROM)
	b = mustFrom(t, s)
	scribble(s.RAM)
	scribble(s.ROM)
	stand(t, "From's lists written over", b, odd())

	image, firm, s = room(pattern(2000, 1)), room(pattern(512, 2)), odd()
	s.RAM, s.ROM = room(s.RAM), room(s.ROM)
	for _, x := range [][]byte{image, firm, s.RAM, s.ROM} {
		copy(x[len(x):cap(x)], bytes.Repeat([]byte{0xc7}, 100))
	}
	for _, b := range []*Board{mustNew(t, 2048, firm, image), mustFrom(t, s)} {
		run(t, b, api.Span{Cycles: 300, DMAIn: true, Bus: 0x21}, api.Span{Cycles: 20, Clear: true}, api.Span{Cycles: 300})
	}
	if Check(s) != api.OK {
		t.Error("Check refused it")
	}
	for k, x := range [][]byte{image, firm, s.RAM, s.ROM} {
		want := [][]byte{pattern(2000, 1), pattern(512, 2), odd().RAM, odd().ROM}[k]
		if !bytes.Equal(x, want) || !bytes.Equal(x[len(x):cap(x)], bytes.Repeat([]byte{0xc7}, cap(x)-len(x))) {
			t.Errorf("list %d was changed", k)
		}
	}
}

// P8.6: a clone stands alike; what is done to one of the two is not seen at the other, whichever it is.
func TestClone(t *testing.T) {
	for k, s := range standing() {
		first := mustFrom(t, s)
		other := first.Clone()
		stand(t, fmt.Sprint("clone ", k), other, s)
		run(t, other, api.Span{Cycles: 9, DMAIn: true, Bus: 0x21}, api.Span{Cycles: 5, Keys: 7}, api.Span{Cycles: 1, Clear: true})
		stand(t, fmt.Sprint("cloned ", k), first, s)
		at := other.State()
		run(t, first, api.Span{Cycles: 9, DMAIn: true, Bus: 0x84}, api.Span{Cycles: 30})
		stand(t, fmt.Sprint("gone on ", k), other, at)
	}
}

// P8.6: two clones go on differently, each as one that was never cloned; so does the first machine.
func TestClonesGoOn(t *testing.T) {
	ways := [][]api.Span{
		{{Cycles: 700, Bus: 1}},
		{{Cycles: 300, DMAIn: true, Bus: 0x55}, {Cycles: 400, Keys: 0xf0f0}},
		{{Cycles: 2, Clear: true}, {Cycles: 698, Tape: true, Interrupt: true}},
	}
	var wanted []api.Board
	for _, way := range ways {
		b := mustFrom(t, odd())
		run(t, b, way...)
		wanted = append(wanted, b.State())
	}
	first := mustFrom(t, odd())
	l := []*Board{first, first.Clone(), first.Clone().Clone()}
	for n := range 700 { // cycle by cycle, in turn
		for k, b := range l {
			b.Step(spanAt(ways[k], n))
		}
	}
	for k, b := range l {
		stand(t, fmt.Sprint("way ", k), b, wanted[k])
	}
}

// spanAt is the span in which a cycle of a script lies.
func spanAt(l []api.Span, n int) api.Span {
	for _, s := range l {
		if n < s.Cycles {
			return s
		}
		n -= s.Cycles
	}
	return api.Span{}
}

// R2: a machine that is nil, and one that no call has made.
func TestNil(t *testing.T) {
	for k, b := range []*Board{nil, {}} {
		if s := b.State(); !sameState(s, api.Board{}) || len(s.RAM) > 0 || len(s.ROM) > 0 {
			t.Errorf("%d: State() = %s", k, brief(s))
		}
		for _, s := range someSpans() {
			if r := b.Step(s); r != (api.Record{}) {
				t.Errorf("%d: Step(%v) = %v", k, s, r)
			}
		}
		for _, l := range [][]api.Span{nil, {}, {{Cycles: 3}}, {{}}, make([]api.Span, 4097)} {
			if r, e := b.Run(l); len(r) > 0 || e != api.ErrNil {
				t.Errorf("%d: Run(%d spans) = %d records, %d, wanted ErrNil", k, len(l), len(r), e)
			}
		}
		if b.Clone() != nil {
			t.Errorf("%d: Clone() is a machine", k)
		}
	}
}
