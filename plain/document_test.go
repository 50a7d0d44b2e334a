package plain

import (
	"fmt"
	"sort"
	"strings"
	"testing"

	"vesper/api"
	"vesper/asm"
	"vesper/code"
	"vesper/source"
)

// draw is a number below n, of a fixed row of numbers.
func draw(d *uint64, n int) int {
	*d = *d*6364136223846793005 + 1442695040888963407
	return int(*d >> 33 % uint64(n))
}

// src is the items of a text.
func src(t *testing.T, text string) []api.Item {
	t.Helper()
	l, e, line := source.Parse(text)
	if e != api.OK {
		t.Fatalf("%.200q is no source: %d at %d", text, e, line)
	}
	return l
}

// built is the object of a text.
func built(t *testing.T, text string) api.Object {
	t.Helper()
	o, e, n := asm.Assemble(src(t, text))
	if e != api.OK {
		t.Fatalf("%.200q is refused: %d at %d", text, e, n)
	}
	return o
}

// tellItem is an item with all its fields, those of which it should have nothing too.
func tellItem(i api.Item) string {
	return fmt.Sprintf("%d %s %x %s %d %x", i.Kind, i.Name, i.Arg, i.Label, i.Part, i.Bytes)
}

// tell is items as a text.
func tell(l []api.Item) string {
	var s strings.Builder
	for _, i := range l {
		s.WriteString(tellItem(i) + "\n")
	}
	return s.String()
}

// tellObject is an object as a text: blocks, then marks, then labels.
func tellObject(o api.Object) string {
	var s strings.Builder
	for _, b := range o.Blocks {
		fmt.Fprintf(&s, "%04x=%x, ", b.At, b.Bytes)
	}
	for _, m := range o.Marks {
		fmt.Fprintf(&s, "%04x %t %d, ", m.At, m.Code, m.Bytes)
	}
	for _, l := range o.Labels {
		fmt.Fprintf(&s, "%s %04x, ", l.Name, l.At)
	}
	return s.String()
}

// What lies at an address of a twin's sheet.
type twinUse int

const (
	twinNothing twinUse = iota
	twinInstr           // an instruction begins
	twinWithin          // its other bytes
	twinData
)

// twinCell is an address of a twin's sheet.
type twinCell struct {
	use    twinUse
	bytes  []byte // of an instruction all of them
	first  bool   // a block begins
	behind bool   // the last byte of a block lies ahead of it
	names  []string
}

// twinSheet draws an object on a sheet, address by address; and which of these have anything, by rising numbers.
func twinSheet(o api.Object) (map[int]*twinCell, []int) {
	sheet := map[int]*twinCell{}
	cell := func(at int) *twinCell {
		if sheet[at] == nil {
			sheet[at] = &twinCell{}
		}
		return sheet[at]
	}
	memory := map[int]byte{}
	for _, b := range o.Blocks {
		cell(b.At).first = true
		cell(b.At + len(b.Bytes)).behind = true
		for k, v := range b.Bytes {
			memory[b.At+k] = v
		}
	}
	for _, m := range o.Marks {
		within := 0
		for at := m.At; at < m.At+m.Bytes; at++ {
			c := cell(at)
			switch {
			case !m.Code:
				c.use = twinData
				c.bytes = []byte{memory[at]}
			case within > 0:
				c.use = twinWithin
				within--
			default:
				c.use = twinInstr
				within = code.Info(memory[at]).Bytes - 1
				for k := range within + 1 {
					c.bytes = append(c.bytes, memory[at+k])
				}
			}
		}
	}
	for _, l := range o.Labels {
		c := cell(l.At)
		c.names = append(c.names, l.Name)
	}
	var all []int
	for at := range sheet {
		all = append(all, at)
	}
	sort.Ints(all)
	return sheet, all
}

func twinNames(names []string) []api.Item {
	var l []api.Item
	for _, n := range names {
		l = append(l, api.Item{Kind: api.ItemLabel, Name: n})
	}
	return l
}

// twinList is P15.1 once more: the object is drawn on a sheet, and its items are read off that.
func twinList(o api.Object) []api.Item {
	sheet, all := twinSheet(o)
	var front, items, away []api.Item
	row := -1 // the address behind the row of data at hand
	for _, at := range all {
		c := sheet[at]
		if c.first && at > 0 {
			items = append(items, api.Item{Kind: api.ItemAt, Arg: at})
		}
		switch names := twinNames(c.names); {
		case c.use == twinInstr, c.use == twinData, c.behind:
			items = append(items, names...)
		case at == 0:
			front = names
		case len(names) > 0:
			away = append(append(away, api.Item{Kind: api.ItemAt, Arg: at}), names...)
		}
		switch c.use {
		case twinInstr:
			i, _, _ := code.Decode(c.bytes)
			items = append(items, api.Item{Kind: api.ItemCode, Name: i.Name, Arg: i.Arg})
		case twinData:
			if row == at && len(c.names) == 0 && len(items[len(items)-1].Bytes) < 256 {
				last := &items[len(items)-1]
				last.Bytes = append(last.Bytes, c.bytes[0])
			} else {
				items = append(items, api.Item{Kind: api.ItemData, Bytes: c.bytes})
			}
			row = at + 1
		}
	}
	return append(append(front, items...), away...)
}

// twinLines is P15.3 once more, without its limit.
func twinLines(l []api.Item) string {
	var s strings.Builder
	at := 0
	for _, i := range l {
		switch i.Kind {
		case api.ItemAt:
			at = i.Arg
		case api.ItemLabel:
			fmt.Fprintf(&s, "%s:\n", i.Name)
		case api.ItemCode:
			b, _ := code.Encode(api.Instr{Name: i.Name, Arg: i.Arg})
			line, _ := code.Print(api.Instr{Name: i.Name, Arg: i.Arg})
			fmt.Fprintf(&s, "%04x  %-8s  %s\n", at, fmt.Sprintf("% x", b), line)
			at += len(b)
		case api.ItemData:
			for k, v := range i.Bytes {
				switch {
				case k%8 > 0:
					fmt.Fprintf(&s, " %02x", v)
				case k > 0:
					fmt.Fprintf(&s, "\n%04x  %02x", at+k, v)
				default:
					fmt.Fprintf(&s, "%04x  %02x", at, v)
				}
			}
			s.WriteString("\n")
			at += len(i.Bytes)
		}
	}
	return s.String()
}

// twinSweep is P15.2 once more, of bytes that are taken.
func twinSweep(b []byte, at int) []api.Item {
	l := []api.Item{{Kind: api.ItemAt, Arg: at}}
	for k := 0; k < len(b); {
		size := code.Info(b[k]).Bytes
		if k+size > len(b) {
			return append(l, api.Item{Kind: api.ItemData, Bytes: b[k:]})
		}
		i, _, _ := code.Decode(b[k : k+size])
		l = append(l, api.Item{Kind: api.ItemCode, Name: i.Name, Arg: i.Arg})
		k += size
	}
	return l
}

// wantTwin holds List and Lines of an object against the twins, and gives the items.
func wantTwin(t *testing.T, o api.Object) []api.Item {
	t.Helper()
	want := twinList(o)
	l, e := List(o)
	if tell(l) != tell(want) || e != api.OK {
		t.Fatalf("List of %.500s: %.500q, %d; want %.500q", tellObject(o), tell(l), e, tell(want))
	}
	wantText, wantE := twinLines(want), api.OK
	if len(wantText) > 65536 {
		wantText, wantE = "", api.ErrLong
	}
	if text, e := Lines(o); text != wantText || e != wantE {
		t.Fatalf("Lines of %.500s: %.500q, %d; want %.500q, %d", tellObject(o), text, e, wantText, wantE)
	}
	return l
}

// wantBack: the items, assembled anew, are the object, if they are not too many (P15.4).
func wantBack(t *testing.T, l []api.Item, o api.Object) {
	t.Helper()
	again, e, n := asm.Assemble(l)
	if len(l) > 4096 {
		if e != api.ErrLong {
			t.Errorf("%d items are assembled: %d", len(l), e)
		}
		return
	}
	if tellObject(again) != tellObject(o) || e != api.OK || n != 0 {
		t.Fatalf("%.500s is listed and assembled as %.500s, %d, %d", tellObject(o), tellObject(again), e, n)
	}
}

// wantList: the object is told by these lines of a source, which are an object of its own again.
func wantList(t *testing.T, o api.Object, text string) {
	t.Helper()
	l, e := List(o)
	if want := src(t, text); tell(l) != tell(want) || e != api.OK {
		t.Errorf("List of %.300s: %.300q, %d; want %.300q", tellObject(o), tell(l), e, text)
	}
	wantTwin(t, o)
	wantBack(t, l, o)
}

// wantLines: the object has this listing.
func wantLines(t *testing.T, o api.Object, want string) {
	t.Helper()
	if text, e := Lines(o); text != want || e != api.OK {
		t.Errorf("Lines of %.300s: %.300q, %d; want %.300q", tellObject(o), text, e, want)
	}
	wantTwin(t, o)
}

// wantSwept: Sweep of the bytes is told by these lines of a source.
func wantSwept(t *testing.T, b string, at int, text string) {
	t.Helper()
	l, e := Sweep([]byte(b), at)
	if want := src(t, text); tell(l) != tell(want) || e != api.OK {
		t.Errorf("Sweep(%x, %d): %.300q, %d; want %.300q", b, at, tell(l), e, text)
	}
	if tell(l) != tell(twinSweep([]byte(b), at)) {
		t.Errorf("Sweep(%x, %d): %.300q; the twin has %.300q", b, at, tell(l), tell(twinSweep([]byte(b), at)))
	}
}

// P15.1 to P15.3: the chapter's examples, row by row.
func TestExamples(t *testing.T) {
	first := api.Object{Blocks: []api.Block{{Bytes: []byte{0xf8, 5, 0x30, 0}}}, Marks: []api.Mark{{Bytes: 4, Code: true}}, Labels: []api.Label{{Name: "a"}}}
	wantList(t, first, "a:\n LDI 05\n BR 00\n")
	wantList(t, api.Object{
		Blocks: []api.Block{{At: 0x10, Bytes: []byte{0xc4, 0}}},
		Marks:  []api.Mark{{At: 0x10, Bytes: 1, Code: true}, {At: 0x11, Bytes: 1}},
		Labels: []api.Label{{Name: "x", At: 0x11}, {Name: "y", At: 0x12}},
	}, " at 0010\n NOP\nx:\n data 00\ny:\n")
	wantList(t, api.Object{Blocks: []api.Block{{Bytes: []byte{0x30, 5}}}, Marks: []api.Mark{{Bytes: 2, Code: true}}, Labels: []api.Label{{Name: "q", At: 1}}}, " BR 05\n at 0001\nq:\n")
	wantList(t, api.Object{Blocks: []api.Block{{At: 5, Bytes: []byte{0xc4}}}, Marks: []api.Mark{{At: 5, Bytes: 1, Code: true}}, Labels: []api.Label{{Name: "z"}}}, "z:\n at 0005\n NOP\n")
	wantSwept(t, "\xf8", 0, " at 0000\n data f8\n")
	wantSwept(t, "\xc0\x01", 5, " at 0005\n data c0 01\n")
	wantUnswept(t, nil, 65536)
	wantLines(t, first, "a:\n0000  f8 05     LDI 05\n0002  30 00     BR 00\n")
}

// P15.1, P15.3: the document's first example of the whole.
func TestExampleOfTheWhole(t *testing.T) {
	o := built(t, " at 8000\n OUT 4 ; the latch is let go\n data 00\n at 0002\n LDI c8\n ADI 64\n PLO a\nend:\n BR to end\n")
	wantList(t, o, " at 0002\n LDI c8\n ADI 64\n PLO a\nend:\n BR 07\n at 8000\n OUT 4\n data 00\n")
	wantLines(t, o, strings.Join([]string{
		"0002  f8 c8     LDI c8",
		"0004  fc 64     ADI 64",
		"0006  aa        PLO a",
		"end:",
		"0007  30 07     BR 07",
		"8000  64        OUT 4",
		"8001  00",
		"",
	}, "\n"))
}
