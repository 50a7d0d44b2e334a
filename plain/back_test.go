package plain

import (
	"fmt"
	"slices"
	"testing"

	"vesper/api"
	"vesper/asm"
	"vesper/code"
)

// wantThereAndBack: a source that is taken is listed by no more items than it has, and these are its object again (T7, P15.4).
func wantThereAndBack(t *testing.T, source []api.Item) {
	t.Helper()
	o, e, n := asm.Assemble(source)
	if e != api.OK {
		t.Fatalf("%.300q is refused: %d at %d", tell(source), e, n)
	}
	l := wantTwin(t, o)
	if len(l) > len(source) {
		t.Fatalf("%d items are listed as %d: %.500q", len(source), len(l), tell(l))
	}
	wantBack(t, l, o)
	again, e := List(o)
	if tell(again) != tell(l) || e != api.OK {
		t.Fatalf("listed anew: %.300q, %d", tell(again), e)
	}
}

// P15.4: sources of each kind of item.
func TestThereAndBack(t *testing.T) {
	for _, text := range []string{
		"", "a:\n", " at 0000\n", " at 1234\n", " at 1234\na:\n", "a:\n at 1234\nb:\n at 0000\nc:\n", " NOP\n", " data 01\n", " LBR 1234\n",
		"fade:\n LDI high fade\n BR ab\n LBR to fade\n data 01 fe\n address fade\n",
		" at 0200\nfade:\n LDI high fade\n LDI low fade\n BR to fade\n LBR to fade\n data 01 fe\n address fade\nend:\n",
		" data 01\n data 02\n data 03\n address a\na:\n address a\n", "a:\nb:\nc:\n NOP\nd:\n data 01\ne:\n",
		" at 0003\n NOP\n at 0000\n data 07\n address b\nb:\n", " at ffff\n NOP\n", " at ffff\na:\n at fffd\n LBR to a\n", " at fffe\na:\n address a\n at ffff\nb:\n",
		" LBR to a\n at 0001\na:\n at 0002\nb:\n at 0003\nc:\n at 0004\nd:\n", " data 01 02 03\n at 0001\na:\n at 0002\nb:\n at 0003\nc:\n",
		" at 0005\na:\n at 0005\nb:\n at 0005\n NOP\n at 0000\n at 0001\n at 0006\n", " at 0001\n data 01\n at 0000\n data 02\n at 0002\n data 03\n",
		"z:\n at 0002\n NOP\n", "z:\n at 0001\n NOP\n at 0000\n NOP\n",
	} {
		wantThereAndBack(t, src(t, text))
	}
}

// placed is an item that has a place, for sources by chance.
type placed struct {
	item api.Item
	size int
}

// chanceItem is an item with bytes; what it asks for is the label "mid", if there is one.
func chanceItem(d *uint64) placed {
	if draw(d, 3) == 0 {
		b := counted([]int{1, 2, 3, 9, 100, 255, 256, 256}[draw(d, 8)])
		return placed{api.Item{Kind: api.ItemData, Bytes: b}, len(b)}
	}
	if draw(d, 6) == 0 {
		return placed{api.Item{Kind: api.ItemAddress, Label: "mid"}, 2}
	}
	info := code.Info(byte(draw(d, 256)))
	i := api.Item{Kind: api.ItemCode, Name: info.Name}
	switch {
	case info.Form == api.FormReg, info.Form == api.FormPort:
		i.Arg = 1 + draw(d, 7)
	case info.Form == api.FormByte && draw(d, 2) == 0:
		i.Label, i.Part = "mid", api.PartHigh+api.Part(draw(d, 2))
	case info.Form == api.FormLong && draw(d, 2) == 0:
		i.Label, i.Part = "mid", api.PartAll
	case info.Form == api.FormByte, info.Form == api.FormShort:
		i.Arg = draw(d, 256)
	case info.Form == api.FormLong:
		i.Arg = draw(d, 65536)
	}
	return placed{i, info.Bytes}
}

// chanceSource is a source that is taken: rows of items with labels, and labels here and there, all rows in any order.
func chanceSource(d *uint64, rows int) []api.Item {
	groups := [][]api.Item{{{Kind: api.ItemAt, Arg: draw(d, 65536)}, {Kind: api.ItemLabel, Name: "mid"}}}
	at, names := draw(d, 3), 0
	label := func() api.Item {
		names++
		return api.Item{Kind: api.ItemLabel, Name: fmt.Sprintf("%c%d", 'a'+draw(d, 26), names)}
	}
	for range rows {
		group := []api.Item{{Kind: api.ItemAt, Arg: at}}
		for range 1 + draw(d, 8) {
			for range max(0, draw(d, 5)-2) {
				group = append(group, label())
			}
			p := chanceItem(d)
			group = append(group, p.item)
			if draw(d, 4) == 0 {
				groups = append(groups, []api.Item{{Kind: api.ItemAt, Arg: at + draw(d, p.size+1)}, label()})
			}
			at += p.size
		}
		if draw(d, 3) == 0 {
			group = append(group, label())
		}
		groups = append(groups, group)
		at += draw(d, 3)
	}
	var source []api.Item
	for len(groups) > 0 {
		n := draw(d, len(groups))
		source = append(source, groups[n]...)
		groups = slices.Delete(groups, n, n+1)
	}
	if draw(d, 2) == 0 {
		source = append([]api.Item{label()}, source...)
	}
	return source
}

// P15.4: sources of all sorts.
func TestAnySourceBack(t *testing.T) {
	d := uint64(154)
	for n := range 1500 {
		wantThereAndBack(t, chanceSource(&d, 1+n%9))
	}
}

// P15.4: sources of the greatest number of items.
func TestManyItemsBack(t *testing.T) {
	many := func(item func(n int) api.Item) []api.Item {
		var l []api.Item
		for n := range 4096 {
			l = append(l, item(n))
		}
		return l
	}
	name := func(n int) string { return fmt.Sprintf("n%04d", n) }
	for _, item := range []func(n int) api.Item{
		func(n int) api.Item { return api.Item{Kind: api.ItemLabel, Name: name(n)} },
		func(n int) api.Item { return api.Item{Kind: api.ItemCode, Name: "LBR", Arg: n} },
		func(n int) api.Item { return api.Item{Kind: api.ItemData, Bytes: []byte(fmt.Sprintf("%016d", n))} },
		func(n int) api.Item { return api.Item{Kind: api.ItemAt, Arg: n} },
		func(n int) api.Item {
			return []api.Item{{Kind: api.ItemAt, Arg: n * 15}, {Kind: api.ItemLabel, Name: name(n)}}[n%2]
		},
		func(n int) api.Item {
			return []api.Item{{Kind: api.ItemAt, Arg: n * 15}, {Kind: api.ItemCode, Name: "NOP"}}[n%2]
		},
		func(n int) api.Item {
			return []api.Item{{Kind: api.ItemCode, Name: "NOP"}, {Kind: api.ItemData, Bytes: []byte{byte(n)}}}[n%2]
		},
		func(n int) api.Item {
			return []api.Item{{Kind: api.ItemLabel, Name: name(n)}, {Kind: api.ItemData, Bytes: counted(31)}}[n%2]
		},
		func(n int) api.Item {
			return []api.Item{{Kind: api.ItemLabel, Name: name(n)}, {Kind: api.ItemAddress, Label: name(n - n%4)}, {Kind: api.ItemCode, Name: "LDI", Label: name(n - n%4), Part: api.PartLow}, {Kind: api.ItemCode, Name: "LBR", Label: "n0000", Part: api.PartAll}}[n%4]
		},
	} {
		wantThereAndBack(t, many(item))
	}
}

// P15.4: objects that no source of 4096 items has are listed, too; what is listed in 4096 items comes back.
func TestManyItemsOfAnObject(t *testing.T) {
	for _, size := range []int{4095, 4096, 4097} {
		o := oneBlock(0, true, make([]byte, size))
		l := wantTwin(t, o)
		if len(l) != size {
			t.Errorf("%d items of %d", len(l), size)
		}
		wantBack(t, l, o)
		o = oneBlock(0, true, make([]byte, size-2), labelsAt(0, size-2)...)
		wantBack(t, wantTwin(t, o), o)
	}
}

// P15.5: what Sweep makes of an object's block is its bytes; of one of code, its items.
func TestSweepOfBlocks(t *testing.T) {
	d := uint64(155)
	for range 300 {
		o, _, _ := asm.Assemble(chanceSource(&d, 3))
		for _, b := range o.Blocks {
			wantSweepBack(t, b.Bytes, b.At)
		}
		for _, m := range o.Marks {
			b, _ := asm.Bytes(o, m.At, m.At+m.Bytes)
			swept, _ := Sweep(b, m.At)
			listed, _ := List(oneBlock(m.At, true, b))
			if m.Code && tell(swept[1:]) != tell(listed[min(m.At, 1):]) {
				t.Fatalf("swept: %.300q; listed: %.300q", tell(swept), tell(listed))
			}
		}
	}
}
