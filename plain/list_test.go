package plain

import (
	"fmt"
	"math"
	"slices"
	"strings"
	"testing"

	"vesper/api"
	"vesper/code"
)

// labelsAt are labels of these addresses, which rise; names are made so that those of one address rise, too.
func labelsAt(at ...int) []api.Label {
	var l []api.Label
	for n, a := range at {
		l = append(l, api.Label{Name: fmt.Sprintf("l%05d", n), At: a})
	}
	return l
}

// oneBlock is an object of one block of code or data.
func oneBlock(at int, isCode bool, b []byte, labels ...api.Label) api.Object {
	return api.Object{Blocks: []api.Block{{At: at, Bytes: b}}, Marks: []api.Mark{{At: at, Bytes: len(b), Code: isCode}}, Labels: labels}
}

// counted is bytes that tell where they are from.
func counted(n int) []byte {
	b := make([]byte, n)
	for k := range b {
		b[k] = byte(k*7 + k>>8)
	}
	return b
}

// P15.1, P15.3: an object of nothing, and of labels alone.
func TestWithoutBlocks(t *testing.T) {
	for _, o := range []api.Object{{}, {Blocks: []api.Block{}, Marks: []api.Mark{}, Labels: []api.Label{}}} {
		wantList(t, o, "")
		wantLines(t, o, "")
	}
	label := func(name string, at int) api.Label { return api.Label{Name: name, At: at} }
	wantList(t, api.Object{Labels: []api.Label{label("a", 0)}}, "a:\n")
	wantList(t, api.Object{Labels: []api.Label{label("a", 0), label("b", 0)}}, "a:\nb:\n")
	wantList(t, api.Object{Labels: []api.Label{label("a", 1)}}, " at 0001\na:\n")
	wantList(t, api.Object{Labels: []api.Label{label("a", 65535)}}, " at ffff\na:\n")
	wantList(t, api.Object{Labels: []api.Label{label("z", 0), label("y", 1), label("b", 2), label("c", 2), label("a", 65535), label("k", 65535)}},
		"z:\n at 0001\ny:\n at 0002\nb:\nc:\n at ffff\na:\nk:\n")
	wantLines(t, api.Object{Labels: []api.Label{label("z", 0), label("y", 1), label("a", 65535)}}, "z:\ny:\na:\n")
}

// P15.1: a first block at 0 has no ItemAt, all others have one, one at 0 or not being ahead of them.
func TestWhereBlocksBegin(t *testing.T) {
	wantList(t, built(t, " NOP"), " NOP\n")
	wantList(t, built(t, " data 07"), " data 07\n")
	wantList(t, built(t, " at 0001\n NOP"), " at 0001\n NOP\n")
	wantList(t, built(t, " at ffff\n NOP"), " at ffff\n NOP\n")
	wantList(t, built(t, " at fffd\n LBR 1234"), " at fffd\n LBR 1234\n")
	wantList(t, built(t, " at fffe\n data 01 02"), " at fffe\n data 01 02\n")
	wantList(t, built(t, " NOP\n at 0002\n NOP\n at 0004\n data 01\n at ffff\n data 02"), " NOP\n at 0002\n NOP\n at 0004\n data 01\n at ffff\n data 02\n")
	wantList(t, built(t, " at 0100\n NOP\n at 0001\n data 01"), " at 0001\n data 01\n at 0100\n NOP\n")
	wantList(t, built(t, " at 8000\n NOP\n at 0000\n data 01"), " data 01\n at 8000\n NOP\n")
}

// P15.1, P15.3: each op, with operands of every sort, alone, in a row and with another one ahead of it.
func TestEveryInstruction(t *testing.T) {
	var all []byte
	for op := range 256 {
		for _, arg := range []byte{0, 1, 0x7f, 0x80, 0xc0, 0xf8, 0xff} {
			b := []byte{byte(op), arg, ^arg}[:code.Info(byte(op)).Bytes]
			all = append(all, b...)
			for _, at := range []int{0, 1, 0xff, 65536 - len(b)} {
				l := wantTwin(t, oneBlock(at, true, b))
				if i := l[len(l)-1]; i.Kind != api.ItemCode || len(l) != 1+min(at, 1) {
					t.Fatalf("List of %x at %d: %s", b, at, tell(l))
				}
			}
			wantTwin(t, oneBlock(7, true, append([]byte{0xc0, 0xc0, 0xc0}, b...)))
		}
	}
	wantTwin(t, oneBlock(0x123, true, all))
	wantTwin(t, oneBlock(0x123, false, all))
	wantTwin(t, oneBlock(0, true, slices.Repeat([]byte{0xc0}, 999), labelsAt(0, 3, 4, 900, 998, 999)...))
}

// P15.1: marks of code and data by turns; what looks like an instruction in data stays data.
func TestMarksByTurns(t *testing.T) {
	wantList(t, built(t, " LDI 05\n data f8\n NOP\n data c0 01\n LBR 1234\n data 00 00"), " LDI 05\n data f8\n NOP\n data c0 01\n LBR 1234\n data 00 00\n")
	wantList(t, built(t, " data c4\n NOP\n data c4\n NOP\n at 0010\n NOP\n data c4"), " data c4\n NOP\n data c4\n NOP\n at 0010\n NOP\n data c4\n")
	o := api.Object{}
	for n := range 100 {
		o.Marks = append(o.Marks, api.Mark{At: n * 3, Bytes: 3, Code: n%2 > 0})
	}
	o.Blocks = []api.Block{{Bytes: slices.Repeat([]byte{0xf8, 0x05, 0xc4}, 100)}}
	if l := wantTwin(t, o); len(l) != 150 {
		t.Errorf("%d items", len(l))
	}
	// A row of data on either side of code is a row of its own, though they are short.
	wantList(t, built(t, " data 01 02\n data 03\n NOP\n data 04\n address a\na:"), " data 01 02 03\n NOP\n data 04 00 07\na:\n")
}

// P15.1: data of 256 bytes each, and what is left.
func TestRowsOfData(t *testing.T) {
	for _, size := range []int{1, 2, 7, 8, 9, 255, 256, 257, 511, 512, 513, 767, 768, 769, 5000} {
		for _, at := range []int{0, 1, 0xff, 0x100, 65536 - size} {
			o := oneBlock(at, false, counted(size))
			l := wantTwin(t, o)
			wantBack(t, l, o)
			rows := l[min(at, 1):]
			if len(rows) != (size+255)/256 {
				t.Errorf("%d bytes of data: %d items", size, len(rows))
			}
			for n, r := range rows {
				if want := min(256, size-256*n); r.Kind != api.ItemData || len(r.Bytes) != want || r.Bytes[0] != counted(size)[256*n] {
					t.Errorf("%d bytes of data at %d: row %d is %s", size, at, n, tellItem(r))
				}
			}
		}
	}
}

// P15.1: a label cuts a row of data wherever it stands, and the next row has 256 bytes of its own.
func TestRowsThatLabelsCut(t *testing.T) {
	for _, size := range []int{1, 2, 8, 255, 256, 257, 512} {
		for _, at := range []int{0, 3, 65536 - size} {
			for cut := max(at-2, 0); cut <= min(at+size+1, 65535); cut++ {
				o := oneBlock(at, false, counted(size), labelsAt(cut)...)
				l := wantTwin(t, o)
				if cut%16 < 2 {
					wantBack(t, l, o)
				}
			}
		}
	}
	wantList(t, oneBlock(0, false, []byte{1, 2, 3}, labelsAt(0, 1, 1, 2, 3, 3, 4)...), "l00000:\n data 01\nl00001:\nl00002:\n data 02\nl00003:\n data 03\nl00004:\nl00005:\n at 0004\nl00006:\n")
	o := oneBlock(0x10, false, counted(600), labelsAt(0x11, 0x112, 0x113, 0x213)...)
	var sizes []int
	for _, i := range wantTwin(t, o) {
		if i.Kind == api.ItemData {
			sizes = append(sizes, len(i.Bytes))
		}
	}
	if !slices.Equal(sizes, []int{1, 256, 1, 1, 256, 85}) {
		t.Errorf("rows of %v bytes", sizes)
	}
}

// P15.1: where each label of a small object stands.
func TestWhereLabelsStand(t *testing.T) {
	text := " at 0010\n LDI 05\n LBR 1234\n NOP\n data 01 02\n at 0020\n BR 05\n"
	for at, want := range map[int]string{
		0x00: "l:\n at 0010\n LDI 05\n LBR 1234\n NOP\n data 01 02\n at 0020\n BR 05\n",
		0x01: text + " at 0001\nl:\n",
		0x0f: text + " at 000f\nl:\n",
		0x10: " at 0010\nl:\n LDI 05\n LBR 1234\n NOP\n data 01 02\n at 0020\n BR 05\n",
		0x11: text + " at 0011\nl:\n",
		0x12: " at 0010\n LDI 05\nl:\n LBR 1234\n NOP\n data 01 02\n at 0020\n BR 05\n",
		0x13: text + " at 0013\nl:\n",
		0x14: text + " at 0014\nl:\n",
		0x15: " at 0010\n LDI 05\n LBR 1234\nl:\n NOP\n data 01 02\n at 0020\n BR 05\n",
		0x16: " at 0010\n LDI 05\n LBR 1234\n NOP\nl:\n data 01 02\n at 0020\n BR 05\n",
		0x17: " at 0010\n LDI 05\n LBR 1234\n NOP\n data 01\nl:\n data 02\n at 0020\n BR 05\n",
		0x18: " at 0010\n LDI 05\n LBR 1234\n NOP\n data 01 02\nl:\n at 0020\n BR 05\n",
		0x19: text + " at 0019\nl:\n",
		0x1f: text + " at 001f\nl:\n",
		0x20: " at 0010\n LDI 05\n LBR 1234\n NOP\n data 01 02\n at 0020\nl:\n BR 05\n",
		0x21: text + " at 0021\nl:\n",
		0x22: text + "l:\n",
		0x23: text + " at 0023\nl:\n", 0xffff: text + " at ffff\nl:\n",
	} {
		o := built(t, text)
		o.Labels = []api.Label{{Name: "l", At: at}}
		wantList(t, o, want)
		o.Labels = []api.Label{{Name: "b", At: at}, {Name: "l", At: at}}
		wantList(t, o, strings.Replace(want, "l:\n", "b:\nl:\n", 1))
		o.Labels = []api.Label{{Name: "a", At: at}, {Name: "a-", At: at}, {Name: "abcdefghijklmnop", At: at}}
		wantList(t, o, strings.Replace(want, "l:\n", "a:\na-:\nabcdefghijklmnop:\n", 1))
	}
}

// P15.1: labels of the address 0, with a block there and without one; at 65535 likewise.
func TestLabelsAtTheEnds(t *testing.T) {
	both := labelsAt(0, 0, 65535, 65535)
	wantList(t, oneBlock(0, true, []byte{0xc4}, both...), "l00000:\nl00001:\n NOP\n at ffff\nl00002:\nl00003:\n")
	wantList(t, oneBlock(0, false, []byte{0xc4}, both...), "l00000:\nl00001:\n data c4\n at ffff\nl00002:\nl00003:\n")
	wantList(t, oneBlock(1, true, []byte{0xc4}, both...), "l00000:\nl00001:\n at 0001\n NOP\n at ffff\nl00002:\nl00003:\n")
	wantList(t, oneBlock(65535, true, []byte{0xc4}, both...), "l00000:\nl00001:\n at ffff\nl00002:\nl00003:\n NOP\n")
	wantList(t, oneBlock(65534, false, []byte{1, 2}, both...), "l00000:\nl00001:\n at fffe\n data 01\nl00002:\nl00003:\n data 02\n")
	wantList(t, oneBlock(65534, true, []byte{0xf8, 2}, both...), "l00000:\nl00001:\n at fffe\n LDI 02\n at ffff\nl00002:\nl00003:\n")
	wantList(t, oneBlock(65534, true, []byte{0xc4}, both...), "l00000:\nl00001:\n at fffe\n NOP\nl00002:\nl00003:\n")
	wantList(t, oneBlock(65533, true, []byte{0xc4}, both...), "l00000:\nl00001:\n at fffd\n NOP\n at ffff\nl00002:\nl00003:\n")
	// Those that have no place stand in their order behind all blocks, that of 0 ahead of all.
	wantList(t, built(t, "z:\n at 0009\n LBR 1234\n at 000a\ny:\n at 0003\nx:\n at 0005\n LDI 00\n at 0006\nw:\n at 000b\nv:\nu:\n"),
		"z:\n at 0005\n LDI 00\n at 0009\n LBR 1234\n at 0003\nx:\n at 0006\nw:\n at 000a\ny:\n at 000b\nu:\nv:\n")
}

// layouts are all ways to fill so many addresses with gaps, data and instructions of one, two and three bytes.
func layouts(addresses int) []string {
	if addresses == 0 {
		return []string{""}
	}
	var all []string
	for _, piece := range []string{".", "d", "1", "22", "333"} {
		if len(piece) > addresses {
			continue
		}
		for _, rest := range layouts(addresses - len(piece)) {
			all = append(all, piece+rest)
		}
	}
	return all
}

// laid is the object of a layout, from an address on.
func laid(layout string, from int) api.Object {
	first := map[byte]byte{'d': 0xf8, '1': 0xc4, '2': 0xf8, '3': 0xc0}
	var o api.Object
	left := 0 // of an instruction
	for k := range len(layout) {
		at, c := from+k, layout[k]
		if c == '.' {
			continue
		}
		if k == 0 || layout[k-1] == '.' {
			o.Blocks = append(o.Blocks, api.Block{At: at})
		}
		if k == 0 || layout[k-1] == '.' || (layout[k-1] == 'd') != (c == 'd') {
			o.Marks = append(o.Marks, api.Mark{At: at, Code: c != 'd'})
		}
		b := &o.Blocks[len(o.Blocks)-1]
		o.Marks[len(o.Marks)-1].Bytes++
		switch {
		case left > 0:
			b.Bytes = append(b.Bytes, byte(0xe0+k))
			left--
		default:
			b.Bytes = append(b.Bytes, first[c])
			if c == '2' || c == '3' {
				left = int(c-'0') - 1
			}
		}
	}
	return o
}

// P15.1, P15.3, P15.4: every small object with labels at every set of addresses, about 0 and about the memory's end.
func TestEverySmallObject(t *testing.T) {
	n := 0
	for _, layout := range layouts(5) {
		for _, from := range []int{0, 1, 65531} {
			o := laid(layout, from)
			for set := range 1 << 7 {
				var at []int
				for k := range 7 {
					if a := from - 1 + k; set>>k&1 > 0 && 0 <= a && a <= 65535 {
						at = append(at, a)
					}
				}
				o.Labels = labelsAt(at...)
				l := wantTwin(t, o)
				if n++; n%37 == 0 {
					wantBack(t, l, o)
				}
			}
		}
	}
}

// P15.1: objects of all the memory: their items are as many as they are, and each has its place.
func TestWholeMemory(t *testing.T) {
	if l := wantTwin(t, oneBlock(0, false, counted(65536))); len(l) != 256 {
		t.Errorf("data: %d items", len(l))
	}
	if l := wantTwin(t, oneBlock(0, true, make([]byte, 65536))); len(l) != 65536 {
		t.Errorf("code: %d items", len(l))
	}
	if l := wantTwin(t, oneBlock(1, true, slices.Repeat([]byte{0xc0}, 65535))); len(l) != 21846 {
		t.Errorf("long branches: %d items", len(l))
	}
	every := make([]int, 65536)
	var gaps api.Object
	for at := range every {
		every[at] = at
		if at%2 > 0 {
			gaps.Blocks = append(gaps.Blocks, api.Block{At: at, Bytes: []byte{0xc4}})
			gaps.Marks = append(gaps.Marks, api.Mark{At: at, Bytes: 1, Code: at%4 > 2})
		}
	}
	if l := wantTwin(t, gaps); len(l) != 65536 {
		t.Errorf("blocks of a byte: %d items", len(l))
	}
	gaps.Labels = labelsAt(every...)
	wantTwin(t, gaps)
	if l := wantTwin(t, api.Object{Labels: labelsAt(every...)}); len(l) != 131071 {
		t.Errorf("labels alone: %d items", len(l))
	}
	if l := wantTwin(t, oneBlock(0, false, counted(65536), labelsAt(every...)...)); len(l) != 131072 {
		t.Errorf("data with labels: %d items", len(l))
	}
	wantTwin(t, oneBlock(0, true, slices.Repeat([]byte{0xf8}, 65536), labelsAt(every...)...))
}

// wantNone: what is no object is refused by both calls.
func wantNone(t *testing.T, o api.Object) {
	t.Helper()
	if l, e := List(o); len(l) != 0 || e != api.ErrArg {
		t.Errorf("List of %.300s: %d items, %d", tellObject(o), len(l), e)
	}
	if text, e := Lines(o); text != "" || e != api.ErrArg {
		t.Errorf("Lines of %.300s: %.100q, %d", tellObject(o), text, e)
	}
}

// P15.1, P15.3: objects that are none: blocks, marks, labels.
func TestNoObjects(t *testing.T) {
	one := []byte{0xc4}
	wantNone(t, api.Object{Marks: []api.Mark{{Bytes: 1}}})
	wantNone(t, api.Object{Blocks: []api.Block{{Bytes: one}}})
	wantNone(t, oneBlock(0, true, nil))
	wantNone(t, oneBlock(-1, true, one))
	wantNone(t, oneBlock(65536, true, one))
	wantNone(t, oneBlock(65535, true, []byte{0xc4, 0xc4}))
	wantNone(t, oneBlock(math.MaxInt, true, one))
	wantNone(t, oneBlock(math.MinInt, false, one))
	wantNone(t, oneBlock(0, false, make([]byte, 65537)))
	wantNone(t, oneBlock(0, true, []byte{0xf8}))
	wantNone(t, oneBlock(0, true, []byte{0xc0, 1}))
	wantNone(t, oneBlock(0, true, []byte{0xc4, 0xf8}))
	for _, m := range [][]api.Mark{
		nil, {{Bytes: 2}}, {{Bytes: 0}}, {{Bytes: -1}}, {{At: 1, Bytes: 1}}, {{Bytes: math.MaxInt}}, {{At: math.MinInt, Bytes: 1}},
		{{Bytes: 1}, {Bytes: 1, Code: true}}, {{Bytes: 1}, {At: 1, Bytes: 1, Code: true}}, {{Bytes: 0}, {Bytes: 1}},
	} {
		wantNone(t, api.Object{Blocks: []api.Block{{Bytes: one}}, Marks: m})
	}
	two := []api.Mark{{Bytes: 1, Code: true}, {At: 1, Bytes: 1, Code: true}}
	wantNone(t, api.Object{Blocks: []api.Block{{Bytes: []byte{0xc4, 0xc4}}}, Marks: two})
	wantNone(t, api.Object{Blocks: []api.Block{{Bytes: one}, {At: 1, Bytes: one}}, Marks: two})
	wantNone(t, api.Object{Blocks: []api.Block{{At: 5, Bytes: one}, {At: 2, Bytes: one}}, Marks: []api.Mark{{At: 5, Bytes: 1}, {At: 2, Bytes: 1}}})
	for _, labels := range [][]api.Label{
		{{Name: ""}}, {{Name: "A"}}, {{Name: "0"}}, {{Name: "a b"}}, {{Name: "abcdefghijklmnopq"}}, {{Name: "a", At: -1}}, {{Name: "a", At: 65536}}, {{Name: "a", At: math.MaxInt}},
		{{Name: "b"}, {Name: "a"}}, {{Name: "a"}, {Name: "a"}}, {{Name: "a"}, {Name: "a", At: 1}}, {{Name: "a", At: 1}, {Name: "b"}},
	} {
		wantNone(t, api.Object{Labels: labels})
		wantNone(t, oneBlock(0, true, one, labels...))
		wantNone(t, oneBlock(7, true, one, labels...))
	}
	// That it is too long is told of objects alone.
	wantNone(t, oneBlock(0, false, make([]byte, 60000), api.Label{Name: "A"}))
}
