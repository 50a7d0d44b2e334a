package asm

import (
	"fmt"
	"sort"
	"strings"
	"testing"

	"vesper/api"
	"vesper/code"
	"vesper/source"
)

// draw is a number below n, of a fixed row of numbers.
func draw(d *uint64, n int) int {
	*d = *d*6364136223846793005 + 1442695040888963407
	return int(*d >> 33 % uint64(n))
}

// src is the items of a text.
func src(t *testing.T, text string) []api.Item {
	t.Helper()
	l, e, line := source.Parse(text)
	if e != api.OK {
		t.Fatalf("%.200q is no source: %d at %d", text, e, line)
	}
	return l
}

// shown is the text of items for a message.
func shown(l []api.Item) string {
	text, e := source.Print(l)
	if e != api.OK {
		text = fmt.Sprintf("%+v", l)
	}
	return fmt.Sprintf("%.600q", text)
}

// tell is an object as a text: blocks, then marks, then labels.
func tell(o api.Object) string {
	var s []string
	for _, b := range o.Blocks {
		s = append(s, fmt.Sprintf("%04x=%x", b.At, b.Bytes))
	}
	for _, m := range o.Marks {
		what := "data"
		if m.Code {
			what = "code"
		}
		s = append(s, fmt.Sprintf("%04x %s %d", m.At, what, m.Bytes))
	}
	for _, l := range o.Labels {
		s = append(s, fmt.Sprintf("%s %04x", l.Name, l.At))
	}
	return strings.Join(s, ", ")
}

// twinSpot is where an item is laid, if nothing is refused.
type twinSpot struct {
	item       api.Item
	from, size int
}

func (s twinSpot) end() int { return s.from + s.size }

// twinSpots are the chapter's places, one item after the other.
func twinSpots(l []api.Item) []twinSpot {
	var spots []twinSpot
	place := 0
	for _, i := range l {
		s := twinSpot{item: i, from: place}
		switch i.Kind {
		case api.ItemCode:
			info, _ := code.Find(i.Name)
			s.size = info.Bytes
		case api.ItemData:
			s.size = len(i.Bytes)
		case api.ItemAddress:
			s.size = 2
		}
		spots = append(spots, s)
		place = s.end()
		if i.Kind == api.ItemAt {
			place = i.Arg
		}
	}
	return spots
}

// twinPlaceFault is the second step of P14.1, of one item and all those ahead of it.
func twinPlaceFault(ahead []twinSpot, s twinSpot) api.Errno {
	label := s.item.Kind == api.ItemLabel
	if label && s.from > 65535 || s.size > 0 && s.end()-1 > 65535 {
		return api.ErrAsmRange
	}
	for _, a := range ahead {
		if label && a.item.Kind == api.ItemLabel && a.item.Name == s.item.Name {
			return api.ErrAsmTwice
		}
	}
	for _, a := range ahead {
		if a.size > 0 && s.size > 0 && a.from < s.end() && s.from < a.end() {
			return api.ErrAsmOverlap
		}
	}
	return api.OK
}

// twinLabel is a label's address; below 0: there is none.
func twinLabel(spots []twinSpot, name string) int {
	for _, s := range spots {
		if s.item.Kind == api.ItemLabel && s.item.Name == name {
			return s.from
		}
	}
	return -1
}

func twinIsShort(i api.Item) bool {
	info, found := code.Find(i.Name)
	return i.Kind == api.ItemCode && found && info.Form == api.FormShort
}

// twinLabelFault is the third step of P14.1.
func twinLabelFault(spots []twinSpot, s twinSpot) api.Errno {
	if s.item.Label == "" {
		return api.OK
	}
	at := twinLabel(spots, s.item.Label)
	if at < 0 {
		return api.ErrAsmNone
	}
	if twinIsShort(s.item) && at/256 != (s.from+1)/256 {
		return api.ErrAsmPage
	}
	return api.OK
}

// twinBytes are an item's.
func twinBytes(spots []twinSpot, s twinSpot) []byte {
	at := twinLabel(spots, s.item.Label)
	both := []byte{byte(at / 256), byte(at % 256)}
	switch s.item.Kind {
	case api.ItemData:
		return s.item.Bytes
	case api.ItemAddress:
		return both
	case api.ItemCode:
		b, _ := code.Encode(api.Instr{Name: s.item.Name, Arg: s.item.Arg})
		switch s.item.Part {
		case api.PartHigh:
			return append(b[:1], both[0])
		case api.PartLow:
			return append(b[:1], both[1])
		case api.PartAll:
			return append(b[:1], both[3-len(b):]...)
		}
		return b
	}
	return nil
}

// twinAssemble is P14.1 once more: each item is held against all others, and bytes stand in a map by their addresses.
func twinAssemble(l []api.Item) (api.Object, api.Errno, int) {
	if e, n := source.Check(l); e != api.OK {
		return api.Object{}, e, n
	}
	spots := twinSpots(l)
	for n, s := range spots {
		if e := twinPlaceFault(spots[:n], s); e != api.OK {
			return api.Object{}, e, n
		}
	}
	for n, s := range spots {
		if e := twinLabelFault(spots, s); e != api.OK {
			return api.Object{}, e, n
		}
	}
	return twinObject(spots), api.OK, 0
}

func twinObject(spots []twinSpot) api.Object {
	var o api.Object
	bytes, isCode := map[int]byte{}, map[int]bool{}
	var all []int
	for _, s := range spots {
		for k, b := range twinBytes(spots, s) {
			bytes[s.from+k] = b
			isCode[s.from+k] = s.item.Kind == api.ItemCode
			all = append(all, s.from+k)
		}
		if s.item.Kind == api.ItemLabel {
			o.Labels = append(o.Labels, api.Label{Name: s.item.Name, At: s.from})
		}
	}
	sort.Ints(all)
	for n, at := range all {
		touches := n > 0 && all[n-1] == at-1
		if !touches {
			o.Blocks = append(o.Blocks, api.Block{At: at})
		}
		if !touches || isCode[at-1] != isCode[at] {
			o.Marks = append(o.Marks, api.Mark{At: at, Code: isCode[at]})
		}
		b := &o.Blocks[len(o.Blocks)-1]
		b.Bytes = append(b.Bytes, bytes[at])
		o.Marks[len(o.Marks)-1].Bytes++
	}
	sort.Slice(o.Labels, func(i, j int) bool { return o.Labels[i].Name < o.Labels[j].Name })
	sort.SliceStable(o.Labels, func(i, j int) bool { return o.Labels[i].At < o.Labels[j].At })
	return o
}

// twinCheck is P14.2 once more, each of its sentences by itself.
func twinCheck(o api.Object) bool {
	return twinBlocks(o.Blocks) && twinMarks(o) && twinLabels(o.Labels)
}

func twinBlocks(blocks []api.Block) bool {
	for n, b := range blocks {
		if b.At < 0 || b.At > 65535 || len(b.Bytes) == 0 || b.At+len(b.Bytes)-1 > 65535 {
			return false
		}
		if n > 0 && b.At <= blocks[n-1].At+len(blocks[n-1].Bytes) {
			return false
		}
	}
	return true
}

func twinMarks(o api.Object) bool {
	in := map[int]int{}
	for n, m := range o.Marks {
		if m.At < 0 || m.At > 65535 || m.Bytes < 1 || m.Bytes > 65536 {
			return false
		}
		var own []byte
		for _, b := range o.Blocks {
			if b.At <= m.At && m.At+m.Bytes <= b.At+len(b.Bytes) {
				own = b.Bytes[m.At-b.At : m.At-b.At+m.Bytes]
			}
		}
		if own == nil || n > 0 && m.At <= o.Marks[n-1].At {
			return false
		}
		if n > 0 && o.Marks[n-1].At+o.Marks[n-1].Bytes == m.At && o.Marks[n-1].Code == m.Code {
			return false
		}
		if m.Code && !twinWhole(own) {
			return false
		}
		for k := range m.Bytes {
			in[m.At+k]++
		}
	}
	for _, b := range o.Blocks {
		for k := range b.Bytes {
			if in[b.At+k] != 1 {
				return false
			}
		}
	}
	return true
}

func twinWhole(b []byte) bool {
	at := 0
	for at < len(b) {
		at += code.Info(b[at]).Bytes
	}
	return at == len(b)
}

func twinLabels(labels []api.Label) bool {
	for n, l := range labels {
		if e, _ := source.Check([]api.Item{{Kind: api.ItemLabel, Name: l.Name}}); e != api.OK || l.At < 0 || l.At > 65535 {
			return false
		}
		for _, a := range labels[:n] {
			if a.Name == l.Name || a.At > l.At || a.At == l.At && a.Name > l.Name {
				return false
			}
		}
	}
	return true
}

// wantTwin holds Assemble of items against the twin; what it answers is an object (P14.4).
func wantTwin(t *testing.T, l []api.Item) api.Errno {
	t.Helper()
	want, wantE, wantN := twinAssemble(l)
	o, e, n := Assemble(l)
	if tell(o) != tell(want) || e != wantE || n != wantN {
		t.Fatalf("Assemble of %s: %.300s, %d, %d; want %.300s, %d, %d", shown(l), tell(o), e, n, tell(want), wantE, wantN)
	}
	if Check(o) != api.OK || !twinCheck(o) {
		t.Fatalf("Assemble of %s: %.300s, which is no object", shown(l), tell(o))
	}
	return e
}

// wantObject: the text's items are laid so.
func wantObject(t *testing.T, text, want string) {
	t.Helper()
	l := src(t, text)
	if o, e, n := Assemble(l); tell(o) != want || e != api.OK || n != 0 {
		t.Errorf("Assemble of %.200q: %.300s, %d, %d; want %.300s", text, tell(o), e, n, want)
	}
	wantTwin(t, l)
}

// wantRefused: Assemble of the text's items answers nothing but that error and that item's number.
func wantRefused(t *testing.T, text string, want api.Errno, item int) {
	t.Helper()
	l := src(t, text)
	if o, e, n := Assemble(l); tell(o) != "" || e != want || n != item {
		t.Errorf("Assemble of %.200q: %.300s, %d, %d; want %d, %d", text, tell(o), e, n, want, item)
	}
	wantTwin(t, l)
}

// P14.1: the chapter's examples, row by row.
func TestExamples(t *testing.T) {
	wantObject(t, "a:\n LDI 05\n BR to a", "0000=f8053000, 0000 code 4, a 0000")
	wantObject(t, " at 00ff\n BR to b\nb:", "00ff=3001, 00ff code 2, b 0101")
	wantRefused(t, " at 00fe\n BR to b\nb:", api.ErrAsmPage, 1)
	wantRefused(t, " LBR to z", api.ErrAsmNone, 0)
	wantRefused(t, "a:\n NOP\na:", api.ErrAsmTwice, 2)
	wantRefused(t, " data 01 02\n at 0001\n NOP", api.ErrAsmOverlap, 2)
	wantRefused(t, " at ffff\n NOP\ne:", api.ErrAsmRange, 2)
	wantRefused(t, " at ffff\n LDI 00", api.ErrAsmRange, 1)
	wantRefused(t, " at 0002\n NOP\n at 0000\n data 07\n address b\nb:", api.ErrAsmOverlap, 4)
	wantObject(t, " at 0003\n NOP\n at 0000\n data 07\n address b\nb:", "0000=070003c4, 0000 data 3, 0003 code 1, b 0003")
}

// P14.1: the sources of the document's examples of the whole.
func TestSourcesOfTheWhole(t *testing.T) {
	wantObject(t, " at 8000\n OUT 4 ; the latch is let go\n data 00\n at 0002\n LDI c8\n ADI 64\n PLO a\nend:\n BR to end\n",
		"0002=f8c8fc64aa3007, 8000=6400, 0002 code 7, 8000 code 1, 8001 data 1, end 0007")
	wantRefused(t, " at 00fe\n BR to away\naway:\n", api.ErrAsmPage, 1)
	wantRefused(t, "a:\n NOP\na:\n", api.ErrAsmTwice, 2)
	wantRefused(t, " LBR to nowhere\n", api.ErrAsmNone, 0)
}
