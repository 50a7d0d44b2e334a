package source

import (
	"math"
	"slices"
	"strings"
	"testing"

	"vesper/api"
)

// right is an item of each shape that may be.
var right = []api.Item{
	{Kind: api.ItemLabel, Name: "a"},
	{Kind: api.ItemCode, Name: "NOP"},
	{Kind: api.ItemCode, Name: "GLO", Arg: 15},
	{Kind: api.ItemCode, Name: "OUT", Arg: 4},
	{Kind: api.ItemCode, Name: "LDI", Arg: 255},
	{Kind: api.ItemCode, Name: "LDI", Label: "a", Part: api.PartHigh},
	{Kind: api.ItemCode, Name: "SMBI", Label: "a", Part: api.PartLow},
	{Kind: api.ItemCode, Name: "BZ", Arg: 255},
	{Kind: api.ItemCode, Name: "BZ", Label: "a", Part: api.PartAll},
	{Kind: api.ItemCode, Name: "LBZ", Arg: 65535},
	{Kind: api.ItemCode, Name: "LBZ", Label: "a", Part: api.PartAll},
	{Kind: api.ItemData, Bytes: []byte{0}},
	{Kind: api.ItemAt},
	{Kind: api.ItemAt, Arg: 65535},
	{Kind: api.ItemAddress, Label: "a"},
}

// oddNumbers are numbers that few things have, or none.
var oddNumbers = []int{math.MinInt, math.MinInt32, -65536, -256, -1, 0, 1, 6, 7, 8, 9, 15, 16, 17, 31, 254, 255, 256, 257, 65534, 65535, 65536, 65537, 1 << 24, math.MaxInt32, 1 << 32, 1<<32 + 5, math.MaxInt}

// P13.1, P13.2, P13.3: an item of each shape.
func TestRightItems(t *testing.T) {
	for _, i := range right {
		if !twinMayBe(i) {
			t.Errorf("%s: it may be", show(i))
		}
		wantItem(t, i)
	}
	wantThereAndBack(t, right)
}

// P13.1, P13.2: names of each length, with each byte at each of their places.
func TestNames(t *testing.T) {
	for _, length := range []int{1, 2, 3, 15, 16, 17} {
		for place := range length {
			for b := range 256 {
				name := []byte(strings.Repeat("k", length))
				name[place] = byte(b)
				small := 'a' <= b && b <= 'z'
				more := '0' <= b && b <= '9' || b == '-'
				wantName(t, string(name), length <= 16 && (small || more && place > 0))
			}
		}
	}
	for _, name := range []string{"a", "z", "a-", "a--", "a0", "z9", "a-9", "m", "data", "at", "address", "to", "high", "low", "fade", "abcdefghijklmnop", "z-0-9-8-7-6-5-4-"} {
		wantName(t, name, true)
	}
	for _, name := range []string{"", "0", "-", "0a", "-a", "A", "aB", "a_", "a.", "a:", ":", "a b", " a", "a ", "a\t", "a\n", "a;", "ä", "aä", "a\x00", "\x00", "a\xff", "abcdefghijklmnopq", "ａ", strings.Repeat("a", 65536)} {
		wantName(t, name, false)
	}
}

// wantName: where a label's name stands, this one may stand, or may not.
func wantName(t *testing.T, name string, may bool) {
	t.Helper()
	for _, i := range []api.Item{
		{Kind: api.ItemLabel, Name: name},
		{Kind: api.ItemAddress, Label: name},
		{Kind: api.ItemCode, Name: "BR", Label: name, Part: api.PartAll},
		{Kind: api.ItemCode, Name: "LBR", Label: name, Part: api.PartAll},
		{Kind: api.ItemCode, Name: "LDI", Label: name, Part: api.PartHigh},
		{Kind: api.ItemCode, Name: "LDI", Label: name, Part: api.PartLow},
	} {
		want := api.OK
		if !may {
			want = api.ErrSourceItem
		}
		if e, n := Check([]api.Item{i}); e != want || n != 0 {
			t.Fatalf("Check of %s: %d, %d; want %d", show(i), e, n, want)
		}
		if _, e := Size(i); e != want {
			t.Fatalf("Size of %s: %d; want %d", show(i), e, want)
		}
	}
}

// P13.1, P13.2: kinds that are none, whatever they have.
func TestKinds(t *testing.T) {
	for kind := range 256 {
		wantItem(t, api.Item{Kind: api.ItemKind(kind)})
		for _, i := range right {
			i.Kind = api.ItemKind(kind)
			if kind == 0 || kind > 5 {
				if e, n := Check([]api.Item{i}); e != api.ErrSourceItem || n != 0 {
					t.Fatalf("Check of %s: %d, %d", show(i), e, n)
				}
			}
			wantItem(t, i)
		}
	}
}

// P13.1, P13.2: what an item of a kind does not have, being there all the same, and alone.
func TestNotNamed(t *testing.T) {
	extras := []func(*api.Item){
		func(i *api.Item) { i.Name = "a" },
		func(i *api.Item) { i.Name = "NOP" },
		func(i *api.Item) { i.Name = "" },
		func(i *api.Item) { i.Arg = 1 },
		func(i *api.Item) { i.Arg = -1 },
		func(i *api.Item) { i.Arg = math.MinInt },
		func(i *api.Item) { i.Label = "b" },
		func(i *api.Item) { i.Label = "B" },
		func(i *api.Item) { i.Label = "" },
		func(i *api.Item) { i.Part = api.PartNone },
		func(i *api.Item) { i.Part = api.PartAll },
		func(i *api.Item) { i.Part = api.PartHigh },
		func(i *api.Item) { i.Part = api.PartLow },
		func(i *api.Item) { i.Part = 4 },
		func(i *api.Item) { i.Part = 255 },
		func(i *api.Item) { i.Bytes = []byte{0} },
		func(i *api.Item) { i.Bytes = make([]byte, 257) },
		func(i *api.Item) { i.Bytes = nil },
	}
	for _, i := range right {
		for _, one := range extras {
			for _, other := range extras {
				x := i
				one(&x)
				wantItem(t, x)
				other(&x)
				wantItem(t, x)
			}
		}
	}
}

// P13.1, P13.2: each choice out of a few worths of each field; an empty list is as none.
func TestEveryShape(t *testing.T) {
	lists := [][]byte{nil, {}, {7}, make([]byte, 256), make([]byte, 257), make([]byte, 0, 9)}
	taken := 0
	for kind := range 7 {
		for _, name := range []string{"", "a", "A", "NOP", "LDN", "GLO", "INP", "ADI", "B4", "LBNF", "nop", "abcdefghijklmnop", "abcdefghijklmnopq"} {
			for _, arg := range []int{-1, 0, 1, 8, 16, 256, 65536} {
				for _, label := range []string{"", "a", "A", "abcdefghijklmnopq"} {
					for _, part := range []api.Part{0, 1, 2, 3, 4} {
						for _, b := range lists {
							i := api.Item{Kind: api.ItemKind(kind), Name: name, Arg: arg, Label: label, Part: part, Bytes: b}
							want := api.ErrSourceItem
							if twinMayBe(i) {
								want = api.OK
								taken++
							}
							if e, n := Check([]api.Item{i}); e != want || n != 0 {
								t.Fatalf("Check of %s: %d, %d; want %d", show(i), e, n, want)
							}
							if _, e := Size(i); e != want {
								t.Fatalf("Size of %s: %d; want %d", show(i), e, want)
							}
						}
					}
				}
			}
		}
	}
	if taken < 100 {
		t.Errorf("only %d may be", taken)
	}
}

// P13.1, P13.2, P13.3, P13.4: each of the 256 instructions with each operand that its form has (of the addresses some).
func TestEveryInstruction(t *testing.T) {
	for _, n := range allNames() {
		for arg := n.least; arg <= n.most; arg++ {
			if n.form == api.FormLong && arg%251 > 1 && arg < 65530 {
				continue
			}
			i := api.Item{Kind: api.ItemCode, Name: n.name, Arg: arg}
			if !twinMayBe(i) {
				t.Fatalf("%s: it may be", show(i))
			}
			wantItem(t, i)
		}
	}
}

// P13.1, P13.2: operands that a form has not.
func TestWrongOperands(t *testing.T) {
	for _, n := range allNames() {
		for _, arg := range append([]int{n.least - 1, n.most + 1}, oddNumbers...) {
			i := api.Item{Kind: api.ItemCode, Name: n.name, Arg: arg}
			if may := n.least <= arg && arg <= n.most; twinMayBe(i) != may {
				t.Fatalf("%s: may be: %t", show(i), may)
			}
			wantItem(t, i)
		}
	}
}

// P13.1, P13.2, P13.3, P13.4: each instruction with a label, with each part of it; beside a label there is no operand.
func TestEveryInstructionWithLabel(t *testing.T) {
	taken := map[api.Form]int{}
	for _, n := range allNames() {
		for part := range 256 {
			for _, label := range []string{"a", "abcdefghijklmnop", "", "A", "abcdefghijklmnopq"} {
				for _, arg := range []int{0, 1, -1, 255, 65535} {
					i := api.Item{Kind: api.ItemCode, Name: n.name, Arg: arg, Label: label, Part: api.Part(part)}
					if part > 4 && (label != "a" || arg > 0) {
						continue
					}
					if part > 0 && twinMayBe(i) {
						taken[n.form]++
					}
					wantItem(t, i)
				}
			}
		}
	}
	// Two labels that may be; of a byte two parts, of an address one.
	for form, names := range map[api.Form]int{api.FormNone: 0, api.FormReg: 0, api.FormPort: 0, api.FormByte: 10 * 2, api.FormShort: 15, api.FormLong: 7} {
		if taken[form] != 2*names {
			t.Errorf("form %d: %d with a label", form, taken[form])
		}
	}
}

// P13.1: names of no instruction.
func TestWrongInstructions(t *testing.T) {
	for _, name := range []string{"", "nop", "Nop", "NOP ", " NOP", "NO", "NOPP", "LDI 05", "data", "at", "address", "a:", "BR to a", "\x00", "N\xff", strings.Repeat("NOP", 30000)} {
		for _, i := range []api.Item{{Name: name}, {Name: name, Arg: 1}, {Name: name, Label: "a", Part: api.PartAll}, {Name: name, Label: "a", Part: api.PartLow}} {
			i.Kind = api.ItemCode
			if twinMayBe(i) {
				t.Fatalf("%s: it may not be", show(i))
			}
			wantItem(t, i)
		}
	}
}

// P13.1, P13.2, P13.3, P13.4: data of none, one, 256 and 257 bytes, and all others about there.
func TestData(t *testing.T) {
	for n := range 600 {
		b := make([]byte, n)
		for k := range b {
			b[k] = byte(k*7 + n)
		}
		i := api.Item{Kind: api.ItemData, Bytes: b}
		size, e := Size(i)
		if n >= 1 && n <= 256 && (size != n || e != api.OK) || (n < 1 || n > 256) && (size != 0 || e != api.ErrSourceItem) {
			t.Errorf("Size of %d bytes: %d, %d", n, size, e)
		}
		wantItem(t, i)
	}
	wantItem(t, api.Item{Kind: api.ItemData, Bytes: make([]byte, 65536)})
	for b := range 256 {
		wantItem(t, api.Item{Kind: api.ItemData, Bytes: []byte{byte(b)}})
		wantItem(t, api.Item{Kind: api.ItemData, Bytes: []byte{byte(b), 0, byte(^b)}})
	}
}

// P13.1, P13.2, P13.3, P13.4: addresses at their edges, and many between.
func TestAt(t *testing.T) {
	for _, x := range []struct {
		arg  int
		want api.Errno
	}{{-1, api.ErrSourceItem}, {0, api.OK}, {65535, api.OK}, {65536, api.ErrSourceItem}} {
		if e, n := Check([]api.Item{{Kind: api.ItemAt, Arg: x.arg}}); e != x.want || n != 0 {
			t.Errorf("Check of At %d: %d, %d", x.arg, e, n)
		}
	}
	for _, arg := range oddNumbers {
		wantItem(t, api.Item{Kind: api.ItemAt, Arg: arg})
	}
	for arg := 0; arg < 65536; arg += 13 {
		wantItem(t, api.Item{Kind: api.ItemAt, Arg: arg})
	}
}

// P13.1: 4096 items and one more; too many are told ahead of all others, in Print, too.
func TestTooManyItems(t *testing.T) {
	for _, n := range []int{0, 1, 2, 4095, 4096, 4097, 4098, 10000} {
		l := slices.Repeat([]api.Item{nop}, n)
		want, length := api.OK, 5*n
		if n > 4096 {
			want, length = api.ErrLong, 0
		}
		if e, at := Check(l); e != want || at != 0 {
			t.Errorf("Check of %d items: %d, %d", n, e, at)
		}
		if s, e := Print(l); len(s) != length || e != want {
			t.Errorf("Print of %d items: %d bytes, %d", n, len(s), e)
		}
	}
	for _, place := range []int{0, 4095, 4096} {
		l := slices.Repeat([]api.Item{nop}, 4097)
		l[place] = api.Item{}
		if e, at := Check(l); e != api.ErrLong || at != 0 {
			t.Errorf("4097 items, one that may not be at %d: %d, %d", place, e, at)
		}
		if s, e := Print(l); s != "" || e != api.ErrLong {
			t.Errorf("Print of 4097 items, one that may not be at %d: %d bytes, %d", place, len(s), e)
		}
	}
	if e, at := Check(make([]api.Item, 4097)); e != api.ErrLong || at != 0 {
		t.Errorf("4097 that may not be: %d, %d", e, at)
	}
}

// P13.1: which one may not be, and the first of several.
func TestWhichItem(t *testing.T) {
	wrong := []api.Item{{}, {Kind: 6}, {Kind: api.ItemLabel, Name: "A"}, {Kind: api.ItemCode, Name: "LDN"}, {Kind: api.ItemData}, {Kind: api.ItemAt, Arg: 65536}, {Kind: api.ItemAddress}}
	for _, place := range []int{0, 1, 2, 100, 4094, 4095} {
		for k, i := range wrong {
			l := slices.Repeat(right, 4096/len(right)+1)[:4096]
			l[place] = i
			if e, n := Check(l); e != api.ErrSourceItem || n != place {
				t.Errorf("%s at %d: %d, %d", show(i), place, e, n)
			}
			for _, behind := range []int{place + 1, place + 7, 4095} {
				if behind < len(l) && behind != place {
					l[behind] = wrong[(k+behind)%len(wrong)]
				}
			}
			if e, n := Check(l); e != api.ErrSourceItem || n != place {
				t.Errorf("%s at %d, and others behind it: %d, %d", show(i), place, e, n)
			}
			if s, e := Print(l); s != "" || e != api.ErrSourceItem {
				t.Errorf("Print with %s at %d: %d bytes, %d", show(i), place, len(s), e)
			}
		}
	}
}

// P13.1: labels that are not there, and those that are there twice, are no matter.
func TestLabelsAreNotLookedAt(t *testing.T) {
	l := []api.Item{
		{Kind: api.ItemLabel, Name: "a"}, {Kind: api.ItemLabel, Name: "a"},
		{Kind: api.ItemCode, Name: "BR", Label: "nowhere", Part: api.PartAll},
		{Kind: api.ItemAt, Arg: 65535}, {Kind: api.ItemCode, Name: "LBR", Label: "away", Part: api.PartAll},
		{Kind: api.ItemAt, Arg: 65535}, {Kind: api.ItemAddress, Label: "away"},
	}
	if e, n := Check(l); e != api.OK || n != 0 {
		t.Errorf("Check: %d, %d", e, n)
	}
	wantThereAndBack(t, l)
}

// P13.1, P13.3, P13.4: no items are the empty text.
func TestNothing(t *testing.T) {
	for _, l := range [][]api.Item{nil, {}} {
		if e, n := Check(l); e != api.OK || n != 0 {
			t.Errorf("Check of none: %d, %d", e, n)
		}
		if s, e := Print(l); s != "" || e != api.OK {
			t.Errorf("Print of none: %q, %d", s, e)
		}
	}
	wantItems(t, "")
}
