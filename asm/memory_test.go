package asm

import (
	"slices"
	"testing"
	"unsafe"

	"vesper/api"
)

// roomyItems is a copy of items whose lists have something in the room behind their ends.
func roomyItems(l []api.Item) (items, whole []api.Item) {
	whole = append(slices.Clone(l), api.Item{Kind: 99}, labelNamed("room"))
	for k := range l {
		whole[k].Bytes = append(slices.Clone(l[k].Bytes), 0xee, 0xee)[:len(l[k].Bytes)]
	}
	return whole[:len(l)], whole
}

// sameItems holds items against each other, and the room behind their bytes against what was laid there.
func sameItems(t *testing.T, l, was []api.Item) {
	t.Helper()
	for k := range was {
		room := l[k].Bytes[:len(l[k].Bytes)+2]
		if l[k].Kind != was[k].Kind || l[k].Name != was[k].Name || l[k].Arg != was[k].Arg || l[k].Label != was[k].Label || l[k].Part != was[k].Part || !slices.Equal(room, append(slices.Clone(was[k].Bytes), 0xee, 0xee)) {
			t.Fatalf("item %d is now %+v; it was %+v", k, l[k], was[k])
		}
	}
}

// roomyObject is a copy of an object whose lists have something in the room behind their ends.
func roomyObject(o api.Object) api.Object {
	var r api.Object
	for _, b := range o.Blocks {
		r.Blocks = append(r.Blocks, api.Block{At: b.At, Bytes: append(slices.Clone(b.Bytes), 0xee, 0xee)[:len(b.Bytes)]})
	}
	r.Blocks = append(r.Blocks, api.Block{At: -9})[:len(o.Blocks)]
	r.Marks = append(slices.Clone(o.Marks), api.Mark{At: -9})[:len(o.Marks)]
	r.Labels = append(slices.Clone(o.Labels), api.Label{Name: "ROOM", At: -9})[:len(o.Labels)]
	return r
}

// tellRoom is an object with the room behind its lists.
func tellRoom(o api.Object) string {
	r := api.Object{Blocks: slices.Clone(o.Blocks[:len(o.Blocks)+1]), Marks: o.Marks[:len(o.Marks)+1], Labels: o.Labels[:len(o.Labels)+1]}
	for k, b := range o.Blocks {
		r.Blocks[k].Bytes = b.Bytes[:len(b.Bytes)+2]
	}
	return tell(r)
}

// spoil writes over a list and all the room behind its end, and makes it grow.
func spoil[E any](list []E, with E) {
	room := list[:cap(list)]
	for k := range room {
		room[k] = with
	}
	_ = append(list, with)
	_ = append(room, with)
}

// spoilObject spoils all lists of an object.
func spoilObject(o api.Object) {
	for _, b := range o.Blocks {
		spoil(b.Bytes, 0x55)
	}
	spoil(o.Blocks, api.Block{At: -7, Bytes: []byte{7}})
	spoil(o.Marks, api.Mark{At: -7, Bytes: -7})
	spoil(o.Labels, api.Label{Name: "GONE", At: -7})
}

// R5: Assemble changes nothing of what it is handed, does not look behind its end, and keeps nothing of it.
func TestItemsHandedIn(t *testing.T) {
	d := uint64(22)
	for n := range 400 {
		l := tameItems(&d, 1+n%6)
		if n%4 == 0 {
			l = wildItems(&d, 20)
		}
		wanted, wantE, wantN := twinAssemble(l)
		told := tell(wanted)
		items, whole := roomyItems(l)
		o, e, at := Assemble(items)
		if tell(o) != told || e != wantE || at != wantN {
			t.Fatalf("Assemble of items with room behind them: %s, %d, %d", tell(o), e, at)
		}
		sameItems(t, items, l)
		if whole[len(l)].Kind != 99 || whole[len(l)+1].Name != "room" {
			t.Fatalf("the room is now %+v", whole[len(l):])
		}
		for _, i := range items {
			spoil(i.Bytes, 0x55)
		}
		spoil(items, api.Item{Kind: 77})
		if tell(o) != told {
			t.Fatalf("the object has changed with the items: %s; want %s", tell(o), told)
		}
		if o, e, at := Assemble(l); tell(o) != told || e != wantE || at != wantN {
			t.Fatalf("Assemble asked anew: %s, %d, %d", tell(o), e, at)
		}
	}
}

// R5: the names of an object are its own, though the items' are written over behind the call.
func TestNamesHandedIn(t *testing.T) {
	name, op := []byte("fade"), []byte("LBR")
	over := func(b []byte) string { return unsafe.String(&b[0], len(b)) }
	o, e, _ := Assemble([]api.Item{{Kind: api.ItemLabel, Name: over(name)}, {Kind: api.ItemCode, Name: over(op), Label: over(name), Part: api.PartAll}})
	clear(name)
	clear(op)
	if tell(o) != "0000=c00000, 0000 code 3, fade 0000" || e != api.OK {
		t.Errorf("%s, %d", tell(o), e)
	}
}

// R5: Check, Bytes and Find change nothing of what they are handed, and do not look behind its end.
func TestObjectsHandedIn(t *testing.T) {
	d := uint64(23)
	for n := range 400 {
		o, _, _ := Assemble(tameItems(&d, 1+n%6))
		for range n % 3 {
			change(&d, &o)
		}
		r := roomyObject(o)
		was := tellRoom(r)
		want := api.ErrArg
		if twinCheck(o) {
			want = api.OK
		}
		if e := Check(r); e != want {
			t.Fatalf("Check of %s with room behind it: %d", tell(o), e)
		}
		b, e := Bytes(r, 0, 65536)
		if e != want {
			t.Fatalf("Bytes of %s with room behind it: %d", tell(o), e)
		}
		if at, found := Find(r, "ROOM"); at != 0 || found {
			t.Fatalf("Find in the room: %d", at)
		}
		spoil(b, 0x77)
		if tellRoom(r) != was {
			t.Fatalf("the object is now %s; it was %s", tellRoom(r), was)
		}
	}
}

// R5: what Bytes answers stays, though the object and another answer are written over and grown.
func TestBytesKept(t *testing.T) {
	d := uint64(24)
	for range 100 {
		o, e, _ := Assemble(tameItems(&d, 4))
		if e != api.OK {
			continue
		}
		kept, _ := Bytes(o, 0, 65536)
		was := slices.Clone(kept)
		part, _ := Bytes(o, o.Blocks[0].At, behind(o.Blocks[0]))
		other, _ := Bytes(o, 0, 65536)
		spoil(part, 0x33)
		spoil(other, 0x33)
		spoilObject(o)
		if !slices.Equal(kept, was) {
			t.Fatal("Bytes have changed")
		}
	}
}

// R5: an object that Assemble answers stays, though another one of the same items is written over and grown.
func TestObjectsKept(t *testing.T) {
	d := uint64(25)
	for range 200 {
		l := tameItems(&d, 4)
		kept, e, _ := Assemble(l)
		other, otherE, _ := Assemble(l)
		if e != otherE || tell(kept) != tell(other) {
			t.Fatalf("Assemble asked twice: %s, %d; %s, %d", tell(kept), e, tell(other), otherE)
		}
		was := tell(kept)
		spoilObject(other)
		if tell(kept) != was {
			t.Fatalf("the object is now %s; it was %s", tell(kept), was)
		}
		wantTwin(t, l)
	}
}

// R5: no two lists of one answer share any memory, spare room included.
func TestListsApart(t *testing.T) {
	d := uint64(26)
	for range 60 {
		l := tameItems(&d, 5)
		o, e, _ := Assemble(l)
		if e != api.OK {
			continue
		}
		for k := range o.Blocks {
			o, _, _ := Assemble(l)
			was := slices.Clone(o.Blocks[k].Bytes)
			own := o.Blocks[k].Bytes
			o.Blocks[k].Bytes = nil
			spoilObject(o)
			if !slices.Equal(own, was) {
				t.Fatalf("block %d is now %x; it was %x", k, own, was)
			}
		}
	}
}

// R3: an empty list is as none, in an item and in an object.
func TestEmptyLists(t *testing.T) {
	l := src(t, "a:\n LDI 05\n at 0007\n BR 08\n address a")
	want, _, _ := Assemble(l)
	for k := range l {
		if len(l[k].Bytes) == 0 {
			l[k].Bytes = []byte{}
		}
	}
	if o, e, n := Assemble(l); tell(o) != tell(want) || e != api.OK || n != 0 {
		t.Errorf("%s, %d, %d", tell(o), e, n)
	}
	for _, o := range []api.Object{{}, {Blocks: []api.Block{}}, {Marks: []api.Mark{}}, {Labels: []api.Label{}}} {
		if e := Check(o); e != api.OK {
			t.Errorf("Check of an empty object: %d", e)
		}
	}
}
