package asm

import (
	"fmt"
	"slices"
	"strings"
	"testing"

	"vesper/api"
	"vesper/code"
)

// Items of each kind.
func labelNamed(name string) api.Item { return api.Item{Kind: api.ItemLabel, Name: name} }

func atItem(place int) api.Item { return api.Item{Kind: api.ItemAt, Arg: place} }

func dataItem(b ...byte) api.Item { return api.Item{Kind: api.ItemData, Bytes: b} }

func addressOf(label string) api.Item { return api.Item{Kind: api.ItemAddress, Label: label} }

func codeItem(name string, arg int) api.Item {
	return api.Item{Kind: api.ItemCode, Name: name, Arg: arg}
}

func codeWith(name string, part api.Part, label string) api.Item {
	return api.Item{Kind: api.ItemCode, Name: name, Part: part, Label: label}
}

// namesOf are the names of a form's instructions.
func namesOf(form api.Form) []string {
	var names []string
	for op := range 256 {
		if i := code.Info(byte(op)); i.Form == form && !slices.Contains(names, i.Name) {
			names = append(names, i.Name)
		}
	}
	return names
}

// want: Assemble of items answers that error and number, and as the twin.
func want(t *testing.T, l []api.Item, wantE api.Errno, wantN int) {
	t.Helper()
	if o, e, n := Assemble(l); e != wantE || n != wantN || e != api.OK && tell(o) != "" {
		t.Errorf("Assemble of %s: %.300s, %d, %d; want %d, %d", shown(l), tell(o), e, n, wantE, wantN)
	}
	wantTwin(t, l)
}

// P14.1: no items, places alone, labels alone.
func TestWithoutBytes(t *testing.T) {
	for _, l := range [][]api.Item{nil, {}, make([]api.Item, 0, 9)} {
		if o, e, n := Assemble(l); tell(o) != "" || e != api.OK || n != 0 {
			t.Errorf("Assemble of nothing: %s, %d, %d", tell(o), e, n)
		}
	}
	wantObject(t, " at 1234\n at ffff\n at 0000\n at 0000", "")
	wantObject(t, "a:", "a 0000")
	wantObject(t, " at ffff\nz:\n at 0005\nb:\na:\n at 0000\nc:", "c 0000, a 0005, b 0005, z ffff")
	wantObject(t, "b:\n at 0007\na:\n at 0000", "b 0000, a 0007")
}

// P14.1: 4096 items are taken, of 4097 nothing is looked at.
func TestManyItems(t *testing.T) {
	var names, bytes, ats []api.Item
	for n := range 4096 {
		names = append(names, labelNamed(fmt.Sprintf("n%d", n)))
		bytes = append(bytes, dataItem([]byte(fmt.Sprintf("%016d", n))...))
		ats = append(ats, atItem(n))
	}
	for _, l := range [][]api.Item{names, bytes, ats, slices.Repeat([]api.Item{codeItem("NOP", 0)}, 4096)} {
		want(t, l, api.OK, 0)
		want(t, append(slices.Clone(l), codeItem("NOP", 0)), api.ErrLong, 0)
		want(t, append(slices.Clone(l), api.Item{}), api.ErrLong, 0)
	}
	if o, _, _ := Assemble(names); len(o.Labels) != 4096 || len(o.Blocks) != 0 {
		t.Errorf("%d labels, %d blocks", len(o.Labels), len(o.Blocks))
	}
	o, _, _ := Assemble(bytes)
	if len(o.Blocks) != 1 || len(o.Blocks[0].Bytes) != 65536 || len(o.Marks) != 1 || o.Marks[0] != (api.Mark{Bytes: 65536}) {
		t.Errorf("the whole memory: %.200s", tell(o))
	}
	want(t, make([]api.Item, 4097), api.ErrLong, 0)
	for _, n := range []int{0, 7, 4095} {
		l := slices.Clone(names)
		l[n] = names[(n+1)%4096]
		want(t, l, api.ErrAsmTwice, max(n, (n+1)%4096))
		l[n] = addressOf("nowhere")
		want(t, l, api.ErrAsmNone, n)
	}
}

// P14.1: an item that may not be is told ahead of all else, wherever it stands.
func TestItemsThatMayNotBe(t *testing.T) {
	wrong := []api.Item{
		{}, {Kind: 6}, labelNamed("A"), labelNamed(""), labelNamed("abcdefghijklmnopq"), codeItem("ABC", 0), codeItem("LDN", 0),
		codeWith("LDI", api.PartAll, "a"), codeWith("BR", api.PartLow, "a"), codeWith("BR", 4, "a"), codeWith("NOP", api.PartAll, "a"), dataItem(), dataItem(make([]byte, 257)...),
		atItem(-1), atItem(65536), addressOf(""), {Kind: api.ItemLabel, Name: "a", Arg: 1}, {Kind: api.ItemAt, Bytes: []byte{1}},
	}
	faulty := src(t, "a:\n LBR to nowhere\na:\n NOP\n at 0000\n data 01 02 03 04\n at ffff\n LDI 00\n")
	for _, w := range wrong {
		want(t, []api.Item{w}, api.ErrSourceItem, 0)
		for n := range len(faulty) + 1 {
			l := slices.Insert(slices.Clone(faulty), n, w)
			want(t, l, api.ErrSourceItem, n)
			want(t, append(l, api.Item{Kind: 9}), api.ErrSourceItem, n)
		}
	}
	want(t, faulty, api.ErrAsmTwice, 2)
}

// P14.1: what may lie at 65535, and what lies behind it.
func TestRange(t *testing.T) {
	wantObject(t, " at ffff\ne:", "e ffff")
	wantObject(t, " at ffff\n NOP", "ffff=c4, ffff code 1")
	wantObject(t, " at ffff\n data 07", "ffff=07, ffff data 1")
	wantObject(t, " at fffe\n LDI 07", "fffe=f807, fffe code 2")
	wantObject(t, " at fffe\n data 07 08", "fffe=0708, fffe data 2")
	wantObject(t, " at fffe\ne:\n address e", "fffe=fffe, fffe data 2, e fffe")
	wantObject(t, " at fffd\n LBR 1234", "fffd=c01234, fffd code 3")
	wantObject(t, " at ffff\n NOP\n at 0000\na:", "ffff=c4, ffff code 1, a 0000")
	wantObject(t, " at ffff\n NOP\n at ffff\na:", "ffff=c4, ffff code 1, a ffff")
	wantRefused(t, " at ffff\n NOP\ne:", api.ErrAsmRange, 2)
	wantRefused(t, " at ffff\n NOP\n NOP", api.ErrAsmRange, 2)
	wantRefused(t, " at ffff\n NOP\n data 00", api.ErrAsmRange, 2)
	wantRefused(t, " at ffff\n LDI 07", api.ErrAsmRange, 1)
	wantRefused(t, " at ffff\n data 07 08", api.ErrAsmRange, 1)
	wantRefused(t, " at ffff\ne:\n address e", api.ErrAsmRange, 2)
	wantRefused(t, " at ffff\ne:\n LDI high e", api.ErrAsmRange, 2)
	wantRefused(t, " at fffe\n LBR 1234", api.ErrAsmRange, 1)
	wantRefused(t, " at ffff\n LBR 1234", api.ErrAsmRange, 1)
	wantRefused(t, " at fffe\ne:\n LBR to e", api.ErrAsmRange, 2)
	wantRefused(t, " at ffff\n NOP\n at ffff\na:\n at 0000\n NOP\n at ffff\n LDI 00", api.ErrAsmRange, 7)
}

// P14.1: data of any length about the end; the place behind 65535 is one for nothing but an ItemAt.
func TestDataAtTheEnd(t *testing.T) {
	for _, size := range []int{1, 2, 3, 255, 256} {
		for place := 65536 - size - 3; place < 65536; place++ {
			l := []api.Item{atItem(place), dataItem(make([]byte, size)...)}
			if place+size > 65536 {
				want(t, l, api.ErrAsmRange, 1)
				continue
			}
			want(t, l, api.OK, 0)
			want(t, append(slices.Clone(l), atItem(3), dataItem(1)), api.OK, 0)
			behind, number := api.OK, 0
			if place+size == 65536 {
				behind, number = api.ErrAsmRange, 2
			}
			want(t, append(slices.Clone(l), labelNamed("e")), behind, number)
			want(t, append(slices.Clone(l), dataItem(1)), behind, number)
		}
	}
}

// P14.1: a name twice, at one address and at two, next to one another and apart; names that are nearly the same.
func TestTwice(t *testing.T) {
	wantRefused(t, "a:\na:", api.ErrAsmTwice, 1)
	wantRefused(t, "a:\nb:\n NOP\n at 0500\na:\nb:", api.ErrAsmTwice, 4)
	wantRefused(t, "a:\nb:\nb:\na:", api.ErrAsmTwice, 2)
	wantRefused(t, "abcdefghijklmnop:\n LBR to abcdefghijklmnop\nabcdefghijklmnop:", api.ErrAsmTwice, 2)
	wantObject(t, "a:\nab:\na-:\na0:\nb:", "a 0000, a- 0000, a0 0000, ab 0000, b 0000")
	wantObject(t, "abcdefghijklmnop:\nabcdefghijklmno:\nabcdefghijklmnoq:", "abcdefghijklmno 0000, abcdefghijklmnop 0000, abcdefghijklmnoq 0000")
	// An error of another item ahead of it, and behind it.
	wantRefused(t, " data 01\n at 0000\n NOP\na:\na:", api.ErrAsmOverlap, 2)
	wantRefused(t, " data 01\na:\n at 0000\na:\n NOP", api.ErrAsmTwice, 3)
	wantRefused(t, "a:\n at ffff\n LDI 00\na:", api.ErrAsmRange, 2)
	wantRefused(t, "a:\na:\n at ffff\n LDI 00", api.ErrAsmTwice, 1)
	wantRefused(t, "a:\n LBR to nowhere\na:", api.ErrAsmTwice, 2)
	wantRefused(t, " BR to a\n at 0500\na:\na:", api.ErrAsmTwice, 3)
}

// P14.1: any two items with bytes, one laid about the other, in either order, with others between and behind.
func TestOverlap(t *testing.T) {
	things := []api.Item{codeItem("NOP", 0), codeItem("LDI", 5), codeWith("LDI", api.PartLow, "a"), codeWith("BR", api.PartAll, "a"), codeItem("LBR", 5), codeWith("LBR", api.PartAll, "a"), dataItem(1), dataItem(1, 2, 3, 4, 5), addressOf("a")}
	sizes := []int{1, 2, 2, 2, 3, 3, 1, 5, 2}
	const base = 0x120
	for n, one := range things {
		for k, other := range things {
			for place := base - 7; place <= base+7; place++ {
				l := []api.Item{atItem(0x100), labelNamed("a"), atItem(base), one, atItem(place), other}
				if place < base+sizes[n] && base < place+sizes[k] {
					want(t, l, api.ErrAsmOverlap, 5)
				} else {
					want(t, l, api.OK, 0)
				}
			}
		}
	}
	wantRefused(t, " at 0010\n data 01 02 03\n at 000e\n data 04 05 06", api.ErrAsmOverlap, 3)
	wantObject(t, " at 0010\n data 01 02 03\n at 000d\n data 04 05 06", "000d=040506010203, 000d data 6")
	wantRefused(t, " at 0010\n data 01 02 03\n at 0012\n data 04 05 06", api.ErrAsmOverlap, 3)
	wantObject(t, " at 0010\n data 01 02 03\n at 0013\n data 04 05 06", "0010=010203040506, 0010 data 6")
	wantRefused(t, " at 0011\n NOP\n at 0010\n LBR 1234", api.ErrAsmOverlap, 3)
	wantRefused(t, " at 0010\n LBR 1234\n at 0011\n NOP", api.ErrAsmOverlap, 3)
	// A byte that is 0 is one, too; the same byte anew is one too many.
	wantRefused(t, " data 00\n at 0000\n data 00", api.ErrAsmOverlap, 2)
	wantRefused(t, " IDL\n at 0000\n IDL", api.ErrAsmOverlap, 2)
	// A label takes up nothing.
	wantObject(t, " LBR 1234\n at 0001\na:\n at 0000\nb:\n at 0003\n NOP", "0000=c01234c4, 0000 code 4, b 0000, a 0001")
}

// P14.1: items that are laid in falling order, next to one another, and the last one on the one ahead.
func TestFallingOrder(t *testing.T) {
	var falling []api.Item
	for n := 99; n >= 0; n-- {
		falling = append(falling, atItem(2*n), codeItem("LDI", n))
	}
	want(t, falling, api.OK, 0)
	o, _, _ := Assemble(falling)
	if len(o.Blocks) != 1 || len(o.Marks) != 1 || o.Marks[0] != (api.Mark{Bytes: 200, Code: true}) || o.Blocks[0].Bytes[199] != 99 {
		t.Errorf("laid in falling order: %s", tell(o))
	}
	for n := 1; n < 100; n++ {
		l := slices.Clone(falling)
		l[2*n] = atItem(l[2*n].Arg + 1)
		want(t, l, api.ErrAsmOverlap, 2*n+1)
	}
}

// P14.1: labels ahead of the item that asks for them, behind it, and its own.
func TestWhereLabelsStand(t *testing.T) {
	for _, x := range []struct{ item, bytes, of string }{
		{" LBR to a", "c0hhll", "code 3"}, {" BR to a", "30ll", "code 2"}, {" LDI high a", "f8hh", "code 2"}, {" LDI low a", "f8ll", "code 2"}, {" address a", "hhll", "data 2"},
	} {
		told := func(at int) string {
			return strings.NewReplacer("hh", fmt.Sprintf("%02x", at/256), "ll", fmt.Sprintf("%02x", at%256)).Replace(x.bytes)
		}
		size := len(x.bytes) / 2
		wantObject(t, " at 1280\na:\n"+x.item, fmt.Sprintf("1280=%s, 1280 %s, a 1280", told(0x1280), x.of))
		wantObject(t, " at 1280\n"+x.item+"\na:", fmt.Sprintf("1280=%s, 1280 %s, a %04x", told(0x1280+size), x.of, 0x1280+size))
		wantObject(t, " at 1234\na:\n at 1280\n"+x.item, fmt.Sprintf("1280=%s, 1280 %s, a 1234", told(0x1234), x.of))
		wantObject(t, " at 1280\n"+x.item+"\n at 12ab\na:", fmt.Sprintf("1280=%s, 1280 %s, a 12ab", told(0x12ab), x.of))
		wantObject(t, " at 1280\n"+x.item+"\n at 1281\na:", fmt.Sprintf("1280=%s, 1280 %s, a 1281", told(0x1281), x.of))
		wantRefused(t, " at 1280\n"+x.item, api.ErrAsmNone, 1)
		wantRefused(t, " at 1280\n"+x.item+"\nb:\naa:", api.ErrAsmNone, 1)
		wantRefused(t, "b:\n at 1280\n"+x.item, api.ErrAsmNone, 2)
	}
}

// P14.1: each instruction that takes a label, with each part that it takes, and labels at many addresses.
func TestParts(t *testing.T) {
	for _, at := range []int{0, 1, 0x7f, 0x80, 0xff, 0x100, 0x1234, 0x7fff, 0x8000, 0xff00, 0xfffe, 0xffff} {
		high, low := byte(at>>8), byte(at)
		for _, name := range namesOf(api.FormByte) {
			wantOneItem(t, codeWith(name, api.PartHigh, "q"), 0x4000, at, high)
			wantOneItem(t, codeWith(name, api.PartLow, "q"), 0x4000, at, low)
		}
		for _, name := range namesOf(api.FormLong) {
			wantOneItem(t, codeWith(name, api.PartAll, "q"), 0x4000, at, high, low)
		}
		for _, name := range namesOf(api.FormShort) {
			wantOneItem(t, codeWith(name, api.PartAll, "q"), at&0xff00+0x40, at, low)
		}
		l := []api.Item{atItem(at), labelNamed("q"), atItem(0x4000), addressOf("q")}
		if o, e, _ := Assemble(l); e != api.OK || tell(o) != tell(twinObject(twinSpots(l))) || !slices.Equal(o.Blocks[0].Bytes, []byte{high, low}) {
			t.Errorf("address of %04x: %s, %d", at, tell(o), e)
		}
	}
	for form, names := range map[api.Form]int{api.FormByte: 10, api.FormShort: 15, api.FormLong: 7} {
		if n := len(namesOf(form)); n != names {
			t.Errorf("form %d: %d names", form, n)
		}
	}
}

// wantOneItem: the instruction, laid at a place, with the label q at another one, has these bytes behind its op.
func wantOneItem(t *testing.T, i api.Item, place, label int, behind ...byte) {
	t.Helper()
	l := []api.Item{atItem(label), labelNamed("q"), atItem(place), i}
	o, e, n := Assemble(l)
	if e != api.OK || n != 0 || len(o.Blocks) != 1 || o.Blocks[0].At != place || !slices.Equal(o.Blocks[0].Bytes[1:], behind) {
		t.Errorf("Assemble of %s: %s, %d, %d; want %x behind the op", shown(l), tell(o), e, n, behind)
		return
	}
	if name := code.Info(o.Blocks[0].Bytes[0]).Name; name != i.Name {
		t.Errorf("Assemble of %s has a %s", shown(l), name)
	}
	wantTwin(t, l)
}

// P14.1: each instruction without a label, with operands of its form: code.Encode's bytes, and nothing is asked.
func TestWithoutLabels(t *testing.T) {
	for op := range 256 {
		name := code.Info(byte(op)).Name
		for _, arg := range []int{0, 1, 7, 15, 0x80, 0xff, 0x100, 0xffff} {
			b, e := code.Encode(api.Instr{Name: name, Arg: arg})
			if e != api.OK {
				continue
			}
			line, _ := code.Print(api.Instr{Name: name, Arg: arg})
			for _, place := range []int{0, 0xfe, 0xff, 0x1000} {
				wantObject(t, fmt.Sprintf(" at %04x\n %s", place, line), fmt.Sprintf("%04x=%x, %04x code %d", place, b, place, len(b)))
			}
		}
	}
}

// P14.1: short branches from the edges of pages to the edges of pages: what counts is where the operand lies.
func TestShortBranches(t *testing.T) {
	names := namesOf(api.FormShort)
	edges := []int{0, 1, 0xfd, 0xfe, 0xff, 0x100, 0x101, 0x1fe, 0x1ff, 0x200, 0x7ffe, 0x7fff, 0x8000, 0xfefe, 0xfeff, 0xff00, 0xff01, 0xfffd, 0xfffe, 0xffff}
	for n, from := range edges {
		for k, to := range edges {
			i := codeWith(names[(n*len(edges)+k)%len(names)], api.PartAll, "q")
			switch {
			case from == 0xffff:
				want(t, []api.Item{atItem(to), labelNamed("q"), atItem(from), i}, api.ErrAsmRange, 3)
			case (from+1)&0xff00 == to&0xff00:
				wantOneItem(t, i, from, to, byte(to))
			default:
				want(t, []api.Item{atItem(to), labelNamed("q"), atItem(from), i}, api.ErrAsmPage, 3)
				want(t, []api.Item{atItem(from), i, atItem(to), labelNamed("q")}, api.ErrAsmPage, 1)
			}
		}
	}
	wantObject(t, " at 00fe\na:\n BR to a", "00fe=30fe, 00fe code 2, a 00fe")
	wantRefused(t, " at 00ff\na:\n BR to a", api.ErrAsmPage, 2)
	wantRefused(t, " at ffff\na:\n BR to a", api.ErrAsmRange, 2)
	wantObject(t, " at fffe\na:\n BR to a", "fffe=30fe, fffe code 2, a fffe")
	// Other forms, and addresses, reach any page.
	wantObject(t, " at 00fe\n LBR to b\n at 4567\nb:", "00fe=c04567, 00fe code 3, b 4567")
	wantObject(t, " at 00fe\n LDI high b\n at 4567\nb:", "00fe=f845, 00fe code 2, b 4567")
	wantObject(t, " at 00fe\n address b\n at 4567\nb:", "00fe=4567, 00fe data 2, b 4567")
}

// P14.1: each short branch looks at its page.
func TestEveryShortBranch(t *testing.T) {
	for _, name := range namesOf(api.FormShort) {
		wantRefused(t, " at 02fe\n "+name+" to b\nb:", api.ErrAsmPage, 1)
		wantRefused(t, " at 02ff\nb:\n "+name+" to b", api.ErrAsmPage, 2)
		want(t, src(t, " at 02ff\n "+name+" to b\nb:"), api.OK, 0)
		want(t, src(t, " at 02fe\nb:\n "+name+" to b"), api.OK, 0)
	}
}

// P14.1: which of several errors is told, of one item and of different ones.
func TestWhichError(t *testing.T) {
	// Of one item.
	wantRefused(t, "a:\n at ffff\n NOP\na:", api.ErrAsmRange, 3)
	wantRefused(t, " at ffff\n NOP\n at ffff\n LDI 00", api.ErrAsmRange, 3)
	wantRefused(t, " at fffe\n NOP\n at fffe\n LBR to nowhere", api.ErrAsmRange, 3)
	wantRefused(t, " NOP\n at 0000\n LBR to nowhere", api.ErrAsmOverlap, 2)
	wantRefused(t, " at 00fe\n NOP\n at 00fe\n BR to b\nb:", api.ErrAsmOverlap, 3)
	wantRefused(t, " at ffff\n BR to nowhere", api.ErrAsmRange, 1)
	// Of different ones, of the same step: the first item.
	wantRefused(t, "a:\na:\n at 0000\n NOP\n at 0000\n NOP", api.ErrAsmTwice, 1)
	wantRefused(t, " NOP\n at 0000\n NOP\na:\na:", api.ErrAsmOverlap, 2)
	wantRefused(t, " at ffff\n LDI 00\na:\na:", api.ErrAsmRange, 1)
	wantRefused(t, " LBR to x\n LBR to y", api.ErrAsmNone, 0)
	wantRefused(t, " LBR to a\n LBR to y\n LBR to x\na:", api.ErrAsmNone, 1)
	wantRefused(t, " BR to b\n LBR to x\n at 0100\nb:", api.ErrAsmPage, 0)
	wantRefused(t, " LBR to x\n BR to b\n at 0100\nb:", api.ErrAsmNone, 0)
	wantRefused(t, " NOP\n LBR to b\n BR to b\n BR to b\n at 0100\nb:", api.ErrAsmPage, 2)
	// Of different steps: the second one's ahead of the third one's.
	wantRefused(t, " LBR to x\n BR to b\n at 0100\nb:\nb:", api.ErrAsmTwice, 4)
	wantRefused(t, " LBR to x\n at ffff\n LDI 00", api.ErrAsmRange, 2)
	wantRefused(t, " BR to b\n at 0100\nb:\n at 0001\n NOP", api.ErrAsmOverlap, 4)
	wantRefused(t, " address x\n at 0001\n data 00", api.ErrAsmOverlap, 2)
}

// P14.1: blocks that touch are one, a gap of a byte makes them two, in whatever order they were laid.
func TestBlocks(t *testing.T) {
	wantObject(t, " data 01\n data 02\n at 0003\n data 03", "0000=0102, 0003=03, 0000 data 2, 0003 data 1")
	wantObject(t, " at 0003\n data 03\n data 01\n at 0000\n data 02\n at 0002\n data 04", "0000=02, 0002=040301, 0000 data 1, 0002 data 3")
	wantObject(t, " data 01\n at 0002\n data 02\n at 0001\n data 03", "0000=010302, 0000 data 3")
	wantObject(t, " at 0002\n data 02\n at 0000\n data 01", "0000=01, 0002=02, 0000 data 1, 0002 data 1")
	wantObject(t, " at ffff\n data 02\n at 0000\n data 01", "0000=01, ffff=02, 0000 data 1, ffff data 1")
	wantObject(t, " at fffe\n data 02\n data 03\n at fffc\n NOP", "fffc=c4, fffe=0203, fffc code 1, fffe data 2")
	wantObject(t, " at 00ff\n data 01\n at 0100\n data 02", "00ff=0102, 00ff data 2")
	wantObject(t, " data 00 00\n at 0003\n IDL", "0000=0000, 0003=00, 0000 data 2, 0003 code 1")
}

// P14.1: marks of code and data by turns, across items, and not across blocks.
func TestMarks(t *testing.T) {
	wantObject(t, " NOP\n LDI 05\n data 01\n address a\n data 02\na:\n NOP\n LBR to a\n data 03",
		"0000=c4f80501000702c4c0000703, 0000 code 3, 0003 data 4, 0007 code 4, 000b data 1, a 0007")
	wantObject(t, " NOP\n at 0002\n NOP\n at 0004\n data 00\n at 0006\n data 01\n NOP",
		"0000=c4, 0002=c4, 0004=00, 0006=01c4, 0000 code 1, 0002 code 1, 0004 data 1, 0006 data 1, 0007 code 1")
	wantObject(t, " at 0001\n data 05\n at 0000\n LDN 5\n at 0002\n LDN 6", "0000=050506, 0000 code 1, 0001 data 1, 0002 code 1")
	wantObject(t, " at 0002\n NOP\n at 0000\n LDI 05\n at 0003\n LBR 0000", "0000=f805c4c00000, 0000 code 6")
	wantObject(t, "a:\n NOP\nb:\n at 0001\n NOP\nc:", "0000=c4c4, 0000 code 2, a 0000, b 0001, c 0002")
}

// P14.1: labels by rising addresses, those of one address by rising names, byte by byte.
func TestLabelOrder(t *testing.T) {
	wantObject(t, "z:\ny:\nx:\n NOP\nw:\nv:\n at 0000\nu:", "0000=c4, 0000 code 1, u 0000, x 0000, y 0000, z 0000, v 0001, w 0001")
	wantObject(t, "ab:\na:\na-b:\nb:\na9:\na-:\na0:\naa:\na-0:", "a 0000, a- 0000, a-0 0000, a-b 0000, a0 0000, a9 0000, aa 0000, ab 0000, b 0000")
	wantObject(t, " at 0100\na:\n at 0002\nc:\n at 8000\nb:\n at 00ff\nd:", "c 0002, d 00ff, a 0100, b 8000")
	names := []string{"q", "q-", "q0", "qq", "k", "zz", "a", "m-1"}
	d := uint64(5)
	for range 200 {
		var l []api.Item
		for range draw(&d, len(names)) + 1 {
			n := draw(&d, len(names))
			l = append(l, atItem(draw(&d, 3)), labelNamed(names[n]))
		}
		wantTwin(t, l)
	}
}

// wildItems are items of which many a thing may be wrong.
func wildItems(d *uint64, most int) []api.Item {
	names := []string{"a", "b", "c", "a0", "a-", "ab", "abcdefghijklmnop"}
	places := []int{0, 1, 2, 0xfc, 0xfd, 0xfe, 0xff, 0x100, 0x101, 0x1fe, 0xfefe, 0xff00, 0xfffc, 0xfffd, 0xfffe, 0xffff}
	var l []api.Item
	for range draw(d, most) {
		name := names[draw(d, len(names))]
		switch draw(d, 9) {
		case 0, 1:
			l = append(l, labelNamed(name))
		case 2, 3:
			l = append(l, atItem(places[draw(d, len(places))]))
		case 4:
			l = append(l, atItem(draw(d, 65536)))
		case 5:
			l = append(l, dataItem(make([]byte, draw(d, 4)+1)...))
		case 6:
			l = append(l, addressOf(name))
		default:
			l = append(l, wildCode(d, name))
		}
	}
	return l
}

// wildCode is an instruction, with a label or without one.
func wildCode(d *uint64, label string) api.Item {
	info := code.Info(byte(draw(d, 256)))
	switch draw(d, 6) {
	case 0:
		info = code.Info(byte(0x30 + draw(d, 8)))
	case 1:
		info = code.Info(byte(0xf8 + draw(d, 6)))
	case 2:
		info = code.Info(byte(0xc0 + draw(d, 4)))
	}
	switch info.Form {
	case api.FormByte:
		return codeWith(info.Name, api.PartHigh+api.Part(draw(d, 2)), label)
	case api.FormShort, api.FormLong:
		return codeWith(info.Name, api.PartAll, label)
	case api.FormReg, api.FormPort:
		return codeItem(info.Name, 1+draw(d, 7))
	}
	return codeItem(info.Name, 0)
}

// tameItems are items that are taken, but for some short branches: rows apart from one another, in any order, with labels that are there.
func tameItems(d *uint64, rows int) []api.Item {
	var l []api.Item
	at := draw(d, 16)
	for row := range rows {
		if row > 0 || draw(d, 2) == 0 {
			l = append(l, atItem((at+row*5)%16*0x1000+0xf0*draw(d, 2)))
		}
		l = append(l, labelNamed(fmt.Sprintf("row%d", row)))
		for range draw(d, 9) {
			to := fmt.Sprintf("row%d", draw(d, rows))
			switch draw(d, 4) {
			case 0:
				l = append(l, dataItem(byte(draw(d, 256)), byte(draw(d, 256))))
			case 1:
				l = append(l, addressOf(to))
			default:
				if i := wildCode(d, to); !twinIsShort(i) || draw(d, 20) == 0 {
					l = append(l, i)
				}
			}
		}
	}
	return l
}

// P14.1, P14.4: sources of all sorts, against the twin; all errors, and none, come often.
func TestAnySource(t *testing.T) {
	d := uint64(14)
	told := map[api.Errno]int{}
	for n := range 9000 {
		if n%3 > 0 {
			told[wantTwin(t, wildItems(&d, 4+n%20))]++
		} else {
			told[wantTwin(t, tameItems(&d, 1+n%10))]++
		}
	}
	for _, e := range []api.Errno{api.OK, api.ErrAsmTwice, api.ErrAsmNone, api.ErrAsmPage, api.ErrAsmRange, api.ErrAsmOverlap} {
		if told[e] < 100 {
			t.Errorf("error %d came %d times: %v", e, told[e], told)
		}
	}
}

// P14.4: an ItemAt of the place that is the place already changes nothing, wherever it stands.
func TestSamePlace(t *testing.T) {
	d := uint64(15)
	taken := 0
	for range 150 {
		l := tameItems(&d, 3)
		o, e, _ := Assemble(l)
		if e != api.OK {
			continue
		}
		taken++
		place := 0
		for n := range len(l) + 1 {
			if place < 65536 {
				more, e, at := Assemble(slices.Insert(slices.Clone(l), n, atItem(place)))
				if tell(more) != tell(o) || e != api.OK || at != 0 {
					t.Fatalf("%s with an ItemAt %04x at %d: %s, %d, %d; want %s", shown(l), place, n, tell(more), e, at, tell(o))
				}
			}
			if n < len(l) {
				place = twinSpots(l[:n+1])[n].end()
				if l[n].Kind == api.ItemAt {
					place = l[n].Arg
				}
			}
		}
	}
	if taken < 50 {
		t.Errorf("only %d were taken", taken)
	}
}

// P14.4: one more label, of a new name, changes nothing but Labels.
func TestOneMoreLabel(t *testing.T) {
	d := uint64(16)
	for range 150 {
		l := tameItems(&d, 3)
		o, e, _ := Assemble(l)
		for n := range len(l) + 1 {
			more, moreE, _ := Assemble(slices.Insert(slices.Clone(l), n, labelNamed("new")))
			if moreE != e || len(more.Labels) != len(o.Labels)+1 && e == api.OK {
				t.Fatalf("%s with a label at %d: %s, %d", shown(l), n, tell(more), moreE)
			}
			more.Labels = slices.DeleteFunc(more.Labels, func(x api.Label) bool { return x.Name == "new" })
			if tell(more) != tell(o) {
				t.Fatalf("%s with a label at %d: %s; want %s", shown(l), n, tell(more), tell(o))
			}
		}
	}
}

// P14.5: without an ItemAt there is one block at most, from 0 on.
func TestOneBlock(t *testing.T) {
	d := uint64(17)
	blocks := 0
	for range 500 {
		l := slices.DeleteFunc(wildItems(&d, 12), func(i api.Item) bool { return i.Kind == api.ItemAt })
		o, e, _ := Assemble(l)
		if e == api.ErrAsmRange || e == api.ErrAsmOverlap {
			t.Fatalf("%s: %d", shown(l), e)
		}
		if len(o.Blocks) > 1 || len(o.Blocks) == 1 && o.Blocks[0].At != 0 {
			t.Fatalf("%s: %s", shown(l), tell(o))
		}
		blocks += len(o.Blocks)
	}
	if blocks < 50 {
		t.Errorf("only %d had a block", blocks)
	}
}

// P14.5: of two sources one behind the other is refused, or has the bytes of both.
func TestTwoSources(t *testing.T) {
	d := uint64(18)
	both, refused := 0, 0
	for range 1500 {
		one, other := tameItems(&d, 2), append([]api.Item{atItem(draw(&d, 65536))}, renamed(tameItems(&d, 1+draw(&d, 2)))...)
		a, e, _ := Assemble(one)
		b, otherE, _ := Assemble(other)
		if e != api.OK || otherE != api.OK {
			continue
		}
		o, e, _ := Assemble(append(slices.Clone(one), other...))
		if e != api.OK {
			refused++
			continue
		}
		both++
		whole, _ := Bytes(o, 0, 65536)
		first, _ := Bytes(a, 0, 65536)
		second, _ := Bytes(b, 0, 65536)
		for k := range whole {
			if whole[k] != first[k]|second[k] {
				t.Fatalf("%s and %s: %02x at %04x", shown(one), shown(other), whole[k], k)
			}
		}
		if len(o.Labels) != len(a.Labels)+len(b.Labels) || bytesOf(o) != bytesOf(a)+bytesOf(b) {
			t.Fatalf("%s and %s: %s", shown(one), shown(other), tell(o))
		}
	}
	if both < 100 || refused < 30 {
		t.Errorf("%d were taken, %d refused", both, refused)
	}
}

// renamed has other names for its labels.
func renamed(l []api.Item) []api.Item {
	for n := range l {
		if l[n].Kind == api.ItemLabel {
			l[n].Name += "-b"
		}
		if l[n].Label != "" {
			l[n].Label += "-b"
		}
	}
	return l
}

// bytesOf is how many bytes an object has.
func bytesOf(o api.Object) int {
	n := 0
	for _, b := range o.Blocks {
		n += len(b.Bytes)
	}
	return n
}
