package source

import (
	"slices"
	"testing"
	"unsafe"

	"vesper/api"
)

// deep is a copy of items that shares nothing with them.
func deep(l []api.Item) []api.Item {
	c := slices.Clone(l)
	for k := range c {
		c[k].Bytes = slices.Clone(c[k].Bytes)
	}
	return c
}

// roomy is a copy of items whose lists have something in the room behind their ends, and the whole of both rooms.
func roomy(l []api.Item) (items, whole []api.Item, rooms [][]byte) {
	whole = append(deep(l), api.Item{Kind: 99}, api.Item{Kind: api.ItemLabel, Name: "room"})
	for k := range l {
		room := append(slices.Clone(l[k].Bytes), 0xee, 0xee, 0xee)
		rooms = append(rooms, room)
		whole[k].Bytes = room[:len(l[k].Bytes)]
	}
	return whole[:len(l)], whole, rooms
}

func deepRooms(rooms [][]byte) [][]byte {
	c := make([][]byte, len(rooms))
	for k := range rooms {
		c[k] = slices.Clone(rooms[k])
	}
	return c
}

// overwrite writes over items, their bytes and all the room behind the ends of both, and makes them grow.
func overwrite(l []api.Item) {
	whole := l[:cap(l)]
	for k := range whole {
		b := whole[k].Bytes[:cap(whole[k].Bytes)]
		for n := range b {
			b[n] ^= 0xff
		}
		_ = append(b, 0x77)
		whole[k] = api.Item{Kind: 77, Name: "gone", Arg: -7, Label: "gone", Part: 7, Bytes: []byte{7}}
	}
	_ = append(l, api.Item{Kind: 78})
	_ = append(whole, api.Item{Kind: 78})
}

// R5: Check, Size and Print change nothing of what they are handed, do not look behind its end, and keep nothing of it.
func TestHandedIn(t *testing.T) {
	d := uint64(7)
	for range 300 {
		l := randomItems(&d, 30)
		want := twinText(l)
		items, whole, rooms := roomy(l)
		wasRooms := deepRooms(rooms)
		if e, n := Check(items); e != api.OK || n != 0 {
			t.Fatalf("Check: %d, %d", e, n)
		}
		for k, i := range items {
			if size, e := Size(i); size != twinSize(l[k]) || e != api.OK {
				t.Fatalf("Size of %s: %d, %d", show(i), size, e)
			}
		}
		text, e := Print(items)
		if text != want || e != api.OK {
			t.Fatalf("Print of items with room behind them: %q, %d; want %q", text, e, want)
		}
		if !sameItems(items, l) || whole[len(l)].Kind != 99 || whole[len(l)+1].Name != "room" {
			t.Fatalf("the items are now %s", show(whole))
		}
		for k := range rooms {
			if !slices.Equal(rooms[k], wasRooms[k]) {
				t.Fatalf("the bytes of item %d are now %x", k, rooms[k])
			}
		}
		overwrite(items)
		for k := range rooms {
			clear(rooms[k])
		}
		if text != want {
			t.Fatalf("the text has changed with the items: %q", text)
		}
		if again, e := Print(l); again != want || e != api.OK {
			t.Fatalf("Print asked anew: %q, %d", again, e)
		}
	}
}

// R5: what Print answers is its own, though the names' bytes are written over behind the call.
func TestPrintKeepsNoName(t *testing.T) {
	name, label, op := []byte("fade"), []byte("away"), []byte("LBR")
	over := func(b []byte) string { return unsafe.String(&b[0], len(b)) }
	text, e := Print([]api.Item{
		{Kind: api.ItemLabel, Name: over(name)},
		{Kind: api.ItemAddress, Label: over(label)},
		{Kind: api.ItemCode, Name: over(op), Label: over(label), Part: api.PartAll},
		{Kind: api.ItemCode, Name: over(op), Arg: 5},
	})
	for _, b := range [][]byte{name, label, op} {
		clear(b)
	}
	if text != "fade:\n address away\n LBR to away\n LBR 0005\n" || e != api.OK {
		t.Errorf("%q, %d", text, e)
	}
}

// R5: an answer of Parse is its own: the text's bytes and another answer are written over and grown, and it stays.
func TestParseOwnMemory(t *testing.T) {
	d := uint64(8)
	for range 300 {
		l := randomItems(&d, 30)
		b := []byte(dressed(&d, twinText(l)) + "\n")
		text := unsafe.String(&b[0], len(b))
		kept, e, _ := Parse(text)
		other, otherE, _ := Parse(text)
		if e != api.OK || otherE != api.OK {
			t.Fatalf("Parse: %d, %d", e, otherE)
		}
		overwrite(other)
		for k := range b {
			b[k] = '!'
		}
		if !sameItems(kept, l) {
			t.Fatalf("the items are now %s; want %s", show(kept), show(l))
		}
	}
}

// R5: no two lists of one answer share any memory, spare room included.
func TestParseListsApart(t *testing.T) {
	d := uint64(9)
	for range 300 {
		l := randomItems(&d, 30)
		got, e, _ := Parse(twinText(l))
		if e != api.OK {
			t.Fatalf("Parse: %d", e)
		}
		for k := range got {
			for n := range got {
				room := got[n].Bytes[:cap(got[n].Bytes)]
				if n == k {
					continue
				}
				for m := range room {
					room[m] = 0x55
				}
				_ = append(room, 0x55)
			}
			if !same(got[k], l[k]) {
				t.Fatalf("item %d is now %s; want %s", k, show(got[k]), show(l[k]))
			}
			got, _, _ = Parse(twinText(l))
		}
	}
}

// R6: what is asked twice is answered alike, whatever was asked between, refused or not.
func TestAskedTwice(t *testing.T) {
	d := uint64(10)
	for range 200 {
		l := randomItems(&d, 20)
		text, _ := Print(l)
		first, _, _ := Parse(text)
		wantFault(t, text+" BR\n", api.ErrSourceText, len(l)+1)
		Print([]api.Item{{}})
		Check(make([]api.Item, 4097))
		second, e, at := Parse(text)
		if !sameItems(first, second) || e != api.OK || at != 0 {
			t.Fatalf("Parse asked anew: %s, %d, %d", show(second), e, at)
		}
		if again, e := Print(l); again != text || e != api.OK {
			t.Fatalf("Print asked anew: %q, %d", again, e)
		}
	}
}
