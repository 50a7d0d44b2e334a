package asm

import (
	"math"
	"slices"
	"strings"
	"testing"

	"vesper/api"
)

// wantCheck holds Check, and Bytes, against the answer that is told and against the twin.
func wantCheck(t *testing.T, o api.Object, may bool) {
	t.Helper()
	want := api.ErrArg
	if may {
		want = api.OK
	}
	if twinCheck(o) != may {
		t.Errorf("%.300s: the twin has it that it is an object: %t", tell(o), !may)
	}
	if e := Check(o); e != want {
		t.Errorf("Check of %.300s: %d; want %d", tell(o), e, want)
	}
	if b, e := Bytes(o, 0, 0); len(b) != 0 || e != want {
		t.Errorf("Bytes of %.300s: %x, %d; want %d", tell(o), b, e, want)
	}
	if b, e := Bytes(o, 0, 16); !may && len(b) != 0 || e != want {
		t.Errorf("Bytes of %.300s: %x, %d; want %d", tell(o), b, e, want)
	}
}

// shifted is an object whose addresses are all that much higher.
func shifted(o api.Object, by int) api.Object {
	var s api.Object
	for _, b := range o.Blocks {
		s.Blocks = append(s.Blocks, api.Block{At: b.At + by, Bytes: b.Bytes})
	}
	for _, m := range o.Marks {
		s.Marks = append(s.Marks, api.Mark{At: m.At + by, Bytes: m.Bytes, Code: m.Code})
	}
	for _, l := range o.Labels {
		s.Labels = append(s.Labels, api.Label{Name: l.Name, At: l.At + by})
	}
	return s
}

// joined is the lists of objects, one behind the other.
func joined(objects ...api.Object) api.Object {
	var all api.Object
	for _, o := range objects {
		all.Blocks = append(all.Blocks, o.Blocks...)
		all.Marks = append(all.Marks, o.Marks...)
		all.Labels = append(all.Labels, o.Labels...)
	}
	return all
}

// sound are objects that are ones, at low addresses; their names are their own.
var sound = []api.Object{
	{Blocks: []api.Block{{At: 2, Bytes: []byte{0xf8, 1, 7}}, {At: 9, Bytes: []byte{8}}}, Marks: []api.Mark{{At: 2, Bytes: 2, Code: true}, {At: 4, Bytes: 1}, {At: 9, Bytes: 1}}, Labels: []api.Label{{Name: "q", At: 3}, {Name: "p", At: 9}}},
	{Blocks: []api.Block{{At: 0, Bytes: []byte{0xc0, 0xc0, 0xc0}}, {At: 4, Bytes: []byte{0xc4}}}, Marks: []api.Mark{{At: 0, Bytes: 3, Code: true}, {At: 4, Bytes: 1, Code: true}}, Labels: []api.Label{{Name: "k", At: 0}, {Name: "l", At: 0}}},
	{Blocks: []api.Block{{At: 1, Bytes: []byte{1, 2, 0x30, 3}}}, Marks: []api.Mark{{At: 1, Bytes: 1}, {At: 2, Bytes: 1, Code: true}, {At: 3, Bytes: 2}}},
}

// wantAtEachPlace: the piece makes objects of others ahead of it, behind it and on both sides of it none, or leaves them objects.
func wantAtEachPlace(t *testing.T, piece api.Object, may bool) {
	t.Helper()
	ahead, behind := shifted(sound[0], 0x100), shifted(sound[1], 0x400)
	wantCheck(t, piece, may)
	wantCheck(t, shifted(piece, 0x300), may)
	wantCheck(t, joined(ahead, shifted(piece, 0x300)), may)
	wantCheck(t, joined(piece, ahead, behind), may)
	wantCheck(t, joined(shifted(piece, 0x300), behind), may)
	wantCheck(t, joined(ahead, shifted(piece, 0x300), behind), may)
	wantCheck(t, joined(ahead, behind, shifted(piece, 0x600)), may)
}

// P14.2: what is an object.
func TestObjects(t *testing.T) {
	wantCheck(t, api.Object{}, true)
	wantCheck(t, api.Object{Blocks: []api.Block{}, Marks: []api.Mark{}, Labels: []api.Label{}}, true)
	wantAtEachPlace(t, api.Object{}, true)
	for _, o := range sound {
		o.Labels = nil
		wantAtEachPlace(t, o, true)
	}
	wantCheck(t, joined(sound[0], shifted(sound[1], 100), shifted(sound[2], 200)), true)
	whole := api.Object{Blocks: []api.Block{{Bytes: make([]byte, 65536)}}, Marks: []api.Mark{{Bytes: 65536}}}
	wantCheck(t, whole, true)
	whole.Marks[0].Code = true
	wantCheck(t, whole, true)
}

// bytesAt is an object of one block, with marks of it.
func bytesAt(at int, b []byte, marks ...api.Mark) api.Object {
	return api.Object{Blocks: []api.Block{{At: at, Bytes: b}}, Marks: marks}
}

// P14.2: blocks that may not be, their marks being right as far as they can.
func TestWrongBlocks(t *testing.T) {
	one := func(at int, b ...byte) api.Object { return bytesAt(at, b, api.Mark{At: at, Bytes: len(b)}) }
	wantAtEachPlace(t, bytesAt(0, nil), false)
	wantAtEachPlace(t, bytesAt(7, []byte{}), false)
	wantAtEachPlace(t, joined(one(9, 1), one(2, 1)), false)
	wantAtEachPlace(t, api.Object{Blocks: []api.Block{{At: 9, Bytes: []byte{1}}, {At: 2, Bytes: []byte{1}}}, Marks: []api.Mark{{At: 2, Bytes: 1}, {At: 9, Bytes: 1}}}, false)
	wantAtEachPlace(t, joined(one(5, 1), one(5, 1)), false)
	wantAtEachPlace(t, joined(one(5, 1, 2), one(6, 1)), false)
	wantAtEachPlace(t, joined(one(5, 1, 2, 3), one(6, 1)), false)
	// They touch, by marks of the same kind and by marks of two.
	wantAtEachPlace(t, joined(one(5, 1), one(6, 1)), false)
	wantAtEachPlace(t, joined(one(5, 1), bytesAt(6, []byte{1}, api.Mark{At: 6, Bytes: 1, Code: true})), false)
	wantAtEachPlace(t, joined(one(5, 1), bytesAt(7, []byte{1}, api.Mark{At: 7, Bytes: 1, Code: true})), true)
	wantAtEachPlace(t, joined(one(5, 1), one(7, 1)), true)
	// Bounds.
	wantCheck(t, one(0, 1), true)
	wantCheck(t, one(-1, 1), false)
	wantCheck(t, one(-1, 1, 2), false)
	wantCheck(t, one(-5, 1), false)
	wantCheck(t, joined(one(-5, 1), one(3, 1)), false)
	wantCheck(t, one(65535, 1), true)
	wantCheck(t, one(65534, 1, 2), true)
	wantCheck(t, one(65535, 1, 2), false)
	wantCheck(t, one(65536, 1), false)
	wantCheck(t, bytesAt(65536, nil), false)
	wantCheck(t, joined(one(3, 1), one(65535, 1)), true)
	wantCheck(t, joined(one(3, 1), one(65535, 1, 2)), false)
	wantCheck(t, joined(one(3, 1), one(65534, 1, 2, 3)), false)
	wantCheck(t, joined(one(65533, 1), one(65535, 1)), true)
	wantCheck(t, joined(one(65533, 1), one(65535, 1), one(65537, 1)), false)
	wantCheck(t, one(0, make([]byte, 65537)...), false)
	wantCheck(t, one(1, make([]byte, 65536)...), false)
	wantCheck(t, one(1, make([]byte, 65535)...), true)
	for _, at := range []int{math.MinInt, math.MinInt32, -65536, 1 << 20, 1 << 32, math.MaxInt32, math.MaxInt - 1, math.MaxInt} {
		wantCheck(t, bytesAt(at, []byte{1}, api.Mark{At: at, Bytes: 1}), false)
		wantCheck(t, bytesAt(at, []byte{1, 2, 3}, api.Mark{At: at, Bytes: 3}), false)
		wantCheck(t, joined(sound[0], bytesAt(at, []byte{1}, api.Mark{At: at, Bytes: 1})), false)
	}
}

// P14.2: marks that may not be, of blocks that may.
func TestWrongMarks(t *testing.T) {
	four := []byte{1, 2, 3, 4}
	mark := func(at, bytes int, isCode bool) api.Mark { return api.Mark{At: at, Bytes: bytes, Code: isCode} }
	for _, x := range []struct {
		marks []api.Mark
		may   bool
	}{
		{[]api.Mark{mark(0, 4, false)}, true},
		{[]api.Mark{mark(0, 4, true)}, true},
		{[]api.Mark{mark(0, 1, true), mark(1, 2, false), mark(3, 1, true)}, true},
		// Bytes that are in none: all, those at the front, within, at the end.
		{nil, false},
		{[]api.Mark{mark(1, 3, false)}, false},
		{[]api.Mark{mark(0, 1, false), mark(2, 2, false)}, false},
		{[]api.Mark{mark(0, 1, false), mark(2, 2, true)}, false},
		{[]api.Mark{mark(0, 3, false)}, false},
		// Bytes that are in two.
		{[]api.Mark{mark(0, 4, false), mark(0, 4, false)}, false},
		{[]api.Mark{mark(0, 4, false), mark(0, 4, true)}, false},
		{[]api.Mark{mark(0, 3, false), mark(2, 2, true)}, false},
		{[]api.Mark{mark(0, 4, false), mark(3, 1, true)}, false},
		{[]api.Mark{mark(0, 1, false), mark(0, 4, true)}, false},
		// Marks without bytes, or with fewer.
		{[]api.Mark{mark(0, 0, false), mark(0, 4, true)}, false},
		{[]api.Mark{mark(0, 2, false), mark(2, 0, true), mark(2, 2, false)}, false},
		{[]api.Mark{mark(0, 4, false), mark(2, 0, true)}, false},
		{[]api.Mark{mark(0, 4, false), mark(4, 0, true)}, false},
		{[]api.Mark{mark(0, 2, false), mark(2, -1, true), mark(1, 3, false)}, false},
		{[]api.Mark{mark(0, 4, false), mark(4, -1, true)}, false},
		{[]api.Mark{mark(0, 4, false), mark(4, math.MinInt, true)}, false},
		// Marks out of the block.
		{[]api.Mark{mark(0, 5, false)}, false},
		{[]api.Mark{mark(0, 3, false), mark(3, 2, true)}, false},
		{[]api.Mark{mark(-1, 5, false)}, false},
		{[]api.Mark{mark(-1, 1, true), mark(0, 4, false)}, false},
		{[]api.Mark{mark(0, 4, false), mark(4, 1, true)}, false},
		{[]api.Mark{mark(0, 4, false), mark(6, 1, true)}, false},
		{[]api.Mark{mark(0, math.MaxInt, false)}, false},
		{[]api.Mark{mark(0, 1, false), mark(1, math.MaxInt, true)}, false},
		{[]api.Mark{mark(math.MaxInt, 4, false)}, false},
		{[]api.Mark{mark(math.MinInt, 4, false)}, false},
		// Marks that do not rise.
		{[]api.Mark{mark(2, 2, false), mark(0, 2, true)}, false},
		{[]api.Mark{mark(0, 1, true), mark(3, 1, true), mark(1, 2, false)}, false},
		// Two that touch are of one kind.
		{[]api.Mark{mark(0, 2, false), mark(2, 2, false)}, false},
		{[]api.Mark{mark(0, 2, true), mark(2, 2, true)}, false},
		{[]api.Mark{mark(0, 1, true), mark(1, 1, false), mark(2, 2, false)}, false},
		{[]api.Mark{mark(0, 1, false), mark(1, 1, true), mark(2, 2, true)}, false},
	} {
		wantAtEachPlace(t, bytesAt(0, four, x.marks...), x.may)
	}
}

// P14.2: marks of several blocks.
func TestMarksOfBlocks(t *testing.T) {
	two := []api.Block{{At: 0, Bytes: []byte{1}}, {At: 2, Bytes: []byte{1, 1}}}
	wantAtEachPlace(t, api.Object{Blocks: two, Marks: []api.Mark{{Bytes: 1}, {At: 2, Bytes: 2}}}, true)
	wantAtEachPlace(t, api.Object{Blocks: two, Marks: []api.Mark{{Bytes: 1, Code: true}, {At: 2, Bytes: 2, Code: true}}}, true)
	wantAtEachPlace(t, api.Object{Blocks: two, Marks: []api.Mark{{Bytes: 4}}}, false)
	wantAtEachPlace(t, api.Object{Blocks: two, Marks: []api.Mark{{Bytes: 3}, {At: 3, Bytes: 1, Code: true}}}, false)
	wantAtEachPlace(t, api.Object{Blocks: two, Marks: []api.Mark{{Bytes: 1}, {At: 1, Bytes: 3, Code: true}}}, false)
	wantAtEachPlace(t, api.Object{Blocks: two, Marks: []api.Mark{{Bytes: 2}, {At: 2, Bytes: 2, Code: true}}}, false)
	wantAtEachPlace(t, api.Object{Blocks: two, Marks: []api.Mark{{Bytes: 1}, {At: 1, Bytes: 1, Code: true}, {At: 2, Bytes: 2}}}, false)
	wantAtEachPlace(t, api.Object{Blocks: two, Marks: []api.Mark{{Bytes: 1}}}, false)
	wantAtEachPlace(t, api.Object{Blocks: two, Marks: []api.Mark{{At: 2, Bytes: 2}}}, false)
	wantAtEachPlace(t, api.Object{Blocks: two, Marks: []api.Mark{{At: 2, Bytes: 2}, {Bytes: 1}}}, false)
	wantAtEachPlace(t, api.Object{Marks: []api.Mark{{Bytes: 1}}}, false)
	wantAtEachPlace(t, api.Object{Marks: []api.Mark{{At: 3}}}, false)
}

// P14.2: code that is cut within an instruction, by the mark's end, whatever stands behind it.
func TestCutCode(t *testing.T) {
	for _, x := range []struct {
		b   string
		may bool
	}{
		{"\xf8", false}, {"\xf8\x05", true}, {"\xf8\xf8", true}, {"\xf8\xf8\xf8", false}, {"\xc0", false}, {"\xc0\x01", false}, {"\xc0\x01\x02", true},
		{"\xc4\xf8", false}, {"\xc4\xc0\x01", false}, {"\xc4\xc4", true}, {"\x30", false}, {"\x30\xc0", true}, {"\x00", true}, {"\x38", true}, {"\xc8", true}, {"\x68", true},
		{"\x7c", false}, {"\x7c\x7d", true}, {"\x7e", true}, {"\x7f", false}, {"\xfe", true}, {"\xff", false}, {"\xcb\xcb\xcb\xca", false}, {"\x61\x69", true},
	} {
		n := len(x.b)
		wantAtEachPlace(t, bytesAt(0, []byte(x.b), api.Mark{Bytes: n, Code: true}), x.may)
		wantAtEachPlace(t, bytesAt(0, []byte(x.b), api.Mark{Bytes: n}), true)
		// Bytes of the next mark, or of the next block, are no part of it.
		wantAtEachPlace(t, bytesAt(0, []byte(x.b+"\x01\x01"), api.Mark{Bytes: n, Code: true}, api.Mark{At: n, Bytes: 2}), x.may)
		wantAtEachPlace(t, joined(bytesAt(0, []byte(x.b), api.Mark{Bytes: n, Code: true}), bytesAt(n+1, []byte{1, 1}, api.Mark{At: n + 1, Bytes: 2})), x.may)
		wantAtEachPlace(t, bytesAt(0, []byte("\x01"+x.b), api.Mark{Bytes: 1}, api.Mark{At: 1, Bytes: n, Code: true}), x.may)
	}
	for b := range 256 {
		for n := 1; n <= 4; n++ {
			row := append([]byte{byte(b)}, 0, 0, 0)[:n]
			wantCheck(t, bytesAt(40, row, api.Mark{At: 40, Bytes: n, Code: true}), twinWhole(row))
		}
	}
}

// P14.2: labels that may not be; those that may lie anywhere.
func TestWrongLabels(t *testing.T) {
	label := func(name string, at int) api.Label { return api.Label{Name: name, At: at} }
	for _, x := range []struct {
		labels []api.Label
		may    bool
	}{
		{[]api.Label{label("a", 0)}, true},
		{[]api.Label{label("a", 5), label("b", 5), label("c", 6)}, true},
		{[]api.Label{label("b", 5), label("a", 6)}, true},
		{[]api.Label{label("a", 5), label("a-", 5), label("a0", 5), label("aa", 5)}, true},
		// Order.
		{[]api.Label{label("a", 6), label("b", 5)}, false},
		{[]api.Label{label("b", 5), label("a", 5)}, false},
		{[]api.Label{label("aa", 5), label("a", 5)}, false},
		{[]api.Label{label("a0", 5), label("a-", 5)}, false},
		{[]api.Label{label("a", 5), label("b", 6), label("c", 5)}, false},
		// A name twice.
		{[]api.Label{label("a", 5), label("a", 5)}, false},
		{[]api.Label{label("a", 5), label("a", 6)}, false},
		{[]api.Label{label("a", 5), label("b", 6), label("a", 7)}, false},
		// Names.
		{[]api.Label{label("", 5)}, false},
		{[]api.Label{label("A", 5)}, false},
		{[]api.Label{label("0a", 5)}, false},
		{[]api.Label{label("-", 5)}, false},
		{[]api.Label{label("a_", 5)}, false},
		{[]api.Label{label("a ", 5)}, false},
		{[]api.Label{label("ä", 5)}, false},
		{[]api.Label{label("a\x00", 5)}, false},
		{[]api.Label{label("abcdefghijklmnop", 5)}, true},
		{[]api.Label{label("abcdefghijklmnopq", 5)}, false},
		{[]api.Label{label(strings.Repeat("n", 70000), 5)}, false},
		{[]api.Label{label("", 5), label("a", 5)}, false},
		{[]api.Label{label("a", 5), label("b:", 5)}, false},
	} {
		wantAtEachPlace(t, api.Object{Labels: x.labels}, x.may)
	}
	for _, at := range []int{0, 1, 255, 256, 65534, 65535} {
		wantCheck(t, api.Object{Labels: []api.Label{label("a", at)}}, true)
		wantCheck(t, joined(sound[0], api.Object{Labels: []api.Label{label("z", max(at, 9))}}), true)
	}
	for _, at := range []int{-1, -2, -65536, math.MinInt, 65536, 65537, 1 << 32, math.MaxInt} {
		wantCheck(t, api.Object{Labels: []api.Label{label("a", at)}}, false)
		wantCheck(t, joined(sound[0], api.Object{Labels: []api.Label{label("z", at)}}), false)
		wantCheck(t, joined(api.Object{Labels: []api.Label{label("z", at)}}, sound[0]), false)
	}
	var many []api.Label
	for n := range 65536 {
		many = append(many, label("n"+string([]byte{byte('a' + n>>12), byte('a' + n>>8&15), byte('a' + n>>4&15), byte('a' + n&15)}), n))
	}
	if e := Check(api.Object{Labels: many}); e != api.OK {
		t.Errorf("Check of 65536 labels: %d", e)
	}
	many[65535].Name = many[0].Name
	if e := Check(api.Object{Labels: many}); e != api.ErrArg {
		t.Errorf("Check of 65536 labels, one name twice: %d", e)
	}
}

// P14.2: every list of up to three marks, of few numbers, of some blocks.
func TestEveryFewMarks(t *testing.T) {
	var one []api.Mark
	for at := -1; at < 5; at++ {
		for bytes := -1; bytes < 5; bytes++ {
			one = append(one, api.Mark{At: at, Bytes: bytes}, api.Mark{At: at, Bytes: bytes, Code: true})
		}
	}
	taken := 0
	for _, blocks := range [][]api.Block{
		nil,
		{{At: 0, Bytes: []byte{1, 0xf8, 1, 1}}},
		{{At: 0, Bytes: []byte{1}}, {At: 2, Bytes: []byte{0xf8, 1}}},
		{{At: 1, Bytes: []byte{0xc0, 1, 1}}},
	} {
		check := func(marks ...api.Mark) {
			o := api.Object{Blocks: blocks, Marks: marks}
			may := twinCheck(o)
			if (Check(o) == api.OK) != may {
				t.Fatalf("Check of %s: %d", tell(o), Check(o))
			}
			if may {
				taken++
			}
		}
		check()
		for _, a := range one {
			check(a)
			for _, b := range one {
				check(a, b)
				for _, c := range one {
					check(a, b, c)
				}
			}
		}
	}
	if taken < 12 {
		t.Errorf("only %d are objects", taken)
	}
}

// P14.2: every list of up to three blocks of few bytes, and of up to three labels.
func TestEveryFewBlocksAndLabels(t *testing.T) {
	var blocks []api.Block
	for _, at := range []int{-1, 0, 1, 2, 3, 4, 65534, 65535, 65536} {
		for n := range 4 {
			blocks = append(blocks, api.Block{At: at, Bytes: make([]byte, n)})
		}
	}
	var labels []api.Label
	for _, name := range []string{"a", "b", "a-", "", "B"} {
		for _, at := range []int{-1, 0, 1, 65535, 65536} {
			labels = append(labels, api.Label{Name: name, At: at})
		}
	}
	taken := 0
	check := func(o api.Object) {
		for _, b := range o.Blocks {
			o.Marks = append(o.Marks, api.Mark{At: b.At, Bytes: len(b.Bytes), Code: b.At%2 == 0})
		}
		may := twinCheck(o)
		if (Check(o) == api.OK) != may {
			t.Fatalf("Check of %s: %d", tell(o), Check(o))
		}
		if may {
			taken++
		}
	}
	each(blocks, func(l []api.Block) { check(api.Object{Blocks: l}) })
	each(labels, func(l []api.Label) { check(api.Object{Labels: l}) })
	if taken < 100 {
		t.Errorf("only %d are objects", taken)
	}
}

// each goes through all lists of up to three of these.
func each[E any](all []E, do func([]E)) {
	do(nil)
	for _, a := range all {
		do([]E{a})
		for _, b := range all {
			do([]E{a, b})
			for _, c := range all {
				do([]E{a, b, c})
			}
		}
	}
}

// P14.2: objects that were made, with one number changed, one part left out, doubled or moved.
func TestChangedObjects(t *testing.T) {
	d := uint64(19)
	told := map[bool]int{}
	for range 3000 {
		o, e, _ := Assemble(tameItems(&d, 1+draw(&d, 4)))
		if e != api.OK {
			continue
		}
		for range 4 {
			change(&d, &o)
			may := twinCheck(o)
			if (Check(o) == api.OK) != may {
				t.Fatalf("Check of %s: %d", tell(o), Check(o))
			}
			told[may]++
		}
	}
	if told[true] < 300 || told[false] < 3000 {
		t.Errorf("objects and others: %v", told)
	}
}

// change changes one thing of an object.
func change(d *uint64, o *api.Object) {
	by := draw(d, 5) - 2
	switch draw(d, 8) {
	case 0:
		o.Blocks = changeList(d, o.Blocks, func(b *api.Block) { b.At += by })
	case 1:
		o.Blocks = changeList(d, o.Blocks, func(b *api.Block) { b.Bytes = append(b.Bytes, 1)[:max(0, len(b.Bytes)+min(by, 1))] })
	case 2:
		o.Blocks = changeList(d, o.Blocks, func(b *api.Block) {
			if len(b.Bytes) > 0 {
				b.Bytes[draw(d, len(b.Bytes))] = byte(draw(d, 256))
			}
		})
	case 3:
		o.Marks = changeList(d, o.Marks, func(m *api.Mark) { m.At += by })
	case 4:
		o.Marks = changeList(d, o.Marks, func(m *api.Mark) { m.Bytes += by })
	case 5:
		o.Marks = changeList(d, o.Marks, func(m *api.Mark) { m.Code = !m.Code })
	case 6:
		o.Labels = changeList(d, o.Labels, func(l *api.Label) { l.At += by })
	case 7:
		o.Labels = changeList(d, o.Labels, func(l *api.Label) { l.Name = l.Name[:draw(d, len(l.Name)+1)] })
	}
}

// changeList changes one of a list's parts, leaves it out, doubles it, or changes it with the next one about.
func changeList[E any](d *uint64, list []E, do func(*E)) []E {
	if len(list) == 0 {
		return list
	}
	n := draw(d, len(list))
	switch draw(d, 6) {
	case 0:
		return slices.Delete(list, n, n+1)
	case 1:
		return slices.Insert(list, n, list[n])
	case 2:
		k := (n + 1) % len(list)
		list[n], list[k] = list[k], list[n]
	default:
		do(&list[n])
	}
	return list
}

// byteAt is the byte that an object has at an address; 0, if it has none.
func byteAt(o api.Object, at int) byte {
	for _, b := range o.Blocks {
		if b.At <= at && at < b.At+len(b.Bytes) {
			return b.Bytes[at-b.At]
		}
	}
	return 0
}

// wantBytes holds Bytes of an object against what stands at each address.
func wantBytes(t *testing.T, o api.Object, from, to int) {
	t.Helper()
	b, e := Bytes(o, from, to)
	if from < 0 || from > to || to > 65536 {
		if len(b) != 0 || e != api.ErrArg {
			t.Errorf("Bytes of %.200s from %d to %d: %x, %d", tell(o), from, to, b, e)
		}
		return
	}
	if len(b) != to-from || e != api.OK {
		t.Errorf("Bytes of %.200s from %d to %d: %d bytes, %d", tell(o), from, to, len(b), e)
		return
	}
	for k := range b {
		if b[k] != byteAt(o, from+k) {
			t.Errorf("Bytes of %.200s from %d to %d: %02x at %d", tell(o), from, to, b[k], from+k)
			return
		}
	}
}

// P14.3: Bytes from each address up to each, ahead of, within, between and behind blocks.
func TestBytes(t *testing.T) {
	gaps := joined(bytesAt(2, []byte{1, 2, 3}, api.Mark{At: 2, Bytes: 3}), bytesAt(6, []byte{4}, api.Mark{At: 6, Bytes: 1}), bytesAt(9, []byte{5, 6}, api.Mark{At: 9, Bytes: 2}))
	if b, e := Bytes(gaps, 1, 12); string(b) != "\x00\x01\x02\x03\x00\x04\x00\x00\x05\x06\x00" || e != api.OK {
		t.Errorf("Bytes: %x, %d", b, e)
	}
	end := joined(bytesAt(0, []byte{7}, api.Mark{Bytes: 1}), bytesAt(65534, []byte{8, 9}, api.Mark{At: 65534, Bytes: 2}))
	for _, o := range []api.Object{gaps, end, {}, sound[0], sound[1]} {
		for from := -2; from < 14; from++ {
			for to := -2; to < 14; to++ {
				wantBytes(t, o, from, to)
				wantBytes(t, o, 65536-from, 65536-to)
			}
		}
		wantBytes(t, o, 0, 65536)
		wantBytes(t, o, 3, 65535)
	}
	whole := bytesAt(0, slices.Repeat([]byte{1, 2, 3, 4}, 16384), api.Mark{Bytes: 65536})
	wantBytes(t, whole, 0, 65536)
	wantBytes(t, whole, 65535, 65536)
	wantBytes(t, whole, 65536, 65536)
	wantBytes(t, whole, 100, 200)
}

// P14.3: bounds that may not be, whatever the object.
func TestBytesBounds(t *testing.T) {
	odd := []int{math.MinInt, math.MinInt32, -65536, -1, 0, 1, 5, 65535, 65536, 65537, 1 << 32, math.MaxInt}
	for _, o := range append([]api.Object{{}}, sound...) {
		for _, from := range odd {
			for _, to := range odd {
				wantBytes(t, o, from, to)
			}
		}
	}
	wrong := api.Object{Marks: []api.Mark{{Bytes: 1}}}
	for _, from := range odd {
		for _, to := range odd {
			if b, e := Bytes(wrong, from, to); len(b) != 0 || e != api.ErrArg {
				t.Errorf("Bytes of no object from %d to %d: %x, %d", from, to, b, e)
			}
		}
	}
}

// P14.3: Bytes of what was made are the bytes that were laid.
func TestBytesOfSources(t *testing.T) {
	d := uint64(20)
	for range 300 {
		l := tameItems(&d, 1+draw(&d, 5))
		o, e, _ := Assemble(l)
		if e != api.OK {
			continue
		}
		spots := twinSpots(l)
		for _, s := range spots {
			if b, e := Bytes(o, s.from, s.end()); string(b) != string(twinBytes(spots, s)) || e != api.OK {
				t.Fatalf("Bytes of %s at %04x: %x, %d", shown([]api.Item{s.item}), s.from, b, e)
			}
		}
		from := draw(&d, 65536)
		wantBytes(t, o, from, from+draw(&d, 65537-from))
	}
}

// wantFind: the name is that label's, or nobody's.
func wantFind(t *testing.T, o api.Object, name string, at int, found bool) {
	t.Helper()
	if n, ok := Find(o, name); n != at || ok != found {
		t.Errorf("Find of %q in %.200s: %d, %t; want %d, %t", name, tell(o), n, ok, at, found)
	}
}

// P14.3: Find, of any object.
func TestFind(t *testing.T) {
	o := api.Object{Labels: []api.Label{{Name: "q", At: 3}, {Name: "a", At: 65535}}}
	wantFind(t, o, "q", 3, true)
	wantFind(t, o, "a", 65535, true)
	for _, name := range []string{"", "b", "A", "Q", "q ", "aa", "a\x00"} {
		wantFind(t, o, name, 0, false)
		wantFind(t, api.Object{}, name, 0, false)
		wantFind(t, bytesAt(0, []byte{1}, api.Mark{Bytes: 1}), name, 0, false)
	}
	wantFind(t, api.Object{Labels: []api.Label{{Name: "a"}}}, "a", 0, true)
	// Objects that are none: names twice, in no order, of no form, at no address.
	none := api.Object{Blocks: []api.Block{{At: -1}}, Marks: []api.Mark{{Bytes: -7}}, Labels: []api.Label{{Name: "z", At: 9}, {Name: "a", At: 7}, {Name: "z", At: 3}, {Name: "", At: 5}, {Name: "", At: 6}, {Name: "B", At: -4}, {Name: "c", At: math.MaxInt}, {Name: "d", At: math.MinInt}}}
	wantFind(t, none, "z", 9, true)
	wantFind(t, none, "a", 7, true)
	wantFind(t, none, "", 5, true)
	wantFind(t, none, "B", -4, true)
	wantFind(t, none, "c", math.MaxInt, true)
	wantFind(t, none, "d", math.MinInt, true)
	wantFind(t, none, "b", 0, false)
}

// P14.3: Find of each label of what was made.
func TestFindOfSources(t *testing.T) {
	d := uint64(21)
	for range 200 {
		l := tameItems(&d, 1+draw(&d, 8))
		o, e, _ := Assemble(l)
		if e != api.OK {
			continue
		}
		for _, s := range twinSpots(l) {
			if s.item.Kind == api.ItemLabel {
				wantFind(t, o, s.item.Name, s.from, true)
				wantFind(t, o, s.item.Name+"-", 0, false)
			}
		}
	}
}
