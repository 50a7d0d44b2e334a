package plain

import (
	"slices"
	"strings"
	"testing"
	"unsafe"

	"vesper/api"
	"vesper/asm"
)

// roomy is a copy of an object whose lists have something in the room behind their ends.
func roomy(o api.Object) api.Object {
	var r api.Object
	for _, b := range o.Blocks {
		r.Blocks = append(r.Blocks, api.Block{At: b.At, Bytes: append(slices.Clone(b.Bytes), 0xee, 0xee)[:len(b.Bytes)]})
	}
	r.Blocks = append(r.Blocks, api.Block{At: -9})[:len(o.Blocks)]
	r.Marks = append(slices.Clone(o.Marks), api.Mark{At: -9})[:len(o.Marks)]
	r.Labels = append(slices.Clone(o.Labels), api.Label{Name: "ROOM", At: -9})[:len(o.Labels)]
	return r
}

// tellRoom is an object with the room behind its lists.
func tellRoom(o api.Object) string {
	r := api.Object{Blocks: slices.Clone(o.Blocks[:len(o.Blocks)+1]), Marks: o.Marks[:len(o.Marks)+1], Labels: o.Labels[:len(o.Labels)+1]}
	for k, b := range o.Blocks {
		r.Blocks[k].Bytes = b.Bytes[:len(b.Bytes)+2]
	}
	return tellObject(r)
}

// spoil writes over a list and all the room behind its end, and makes it grow.
func spoil[E any](list []E, with E) {
	room := list[:cap(list)]
	for k := range room {
		room[k] = with
	}
	_ = append(list, with)
	_ = append(room, with)
}

// spoilObject spoils all lists of an object.
func spoilObject(o api.Object) {
	for _, b := range o.Blocks {
		spoil(b.Bytes, 0x55)
	}
	spoil(o.Blocks, api.Block{At: -7, Bytes: []byte{7}})
	spoil(o.Marks, api.Mark{At: -7, Bytes: -7})
	spoil(o.Labels, api.Label{Name: "GONE", At: -7})
}

// spoilItems spoils all lists of items.
func spoilItems(l []api.Item) {
	for _, i := range l {
		spoil(i.Bytes, 0x77)
	}
	spoil(l, api.Item{Kind: 99, Name: "GONE", Bytes: []byte{9}})
}

// R5: List and Lines change nothing of an object, do not look behind its lists' ends, and keep nothing of it.
func TestObjectsHandedIn(t *testing.T) {
	d := uint64(156)
	for n := range 300 {
		o, _, _ := asm.Assemble(chanceSource(&d, 1+n%5))
		if n%10 == 0 {
			o = oneBlock(n, false, counted(700+n), labelsAt(n+1, n+300)...)
		}
		want, lines := tell(twinList(o)), twinLines(twinList(o))
		r := roomy(o)
		was := tellRoom(r)
		l, e := List(r)
		text, lineE := Lines(r)
		other, _ := List(r)
		if tell(l) != want || e != api.OK || text != lines || lineE != api.OK {
			t.Fatalf("of an object with room behind it: %.300q, %d", tell(l), e)
		}
		spoilItems(other)
		if tellRoom(r) != was {
			t.Fatalf("the object is now %.300s; it was %.300s", tellRoom(r), was)
		}
		spoilObject(r)
		if tell(l) != want || text != lines {
			t.Fatalf("the answer has changed: %.300q", tell(l))
		}
	}
}

// R5: Sweep changes nothing of the bytes, does not look behind their end, and keeps nothing of them.
func TestBytesHandedIn(t *testing.T) {
	d := uint64(157)
	for size := range 300 {
		b := make([]byte, size, size+3)
		for k := range b {
			b[k] = byte(draw(&d, 256))
		}
		if size > 1 {
			b[size-1-size%2] = 0xc0
		}
		room := b[:size+3]
		room[size], room[size+1], room[size+2] = 0xee, 0xee, 0xee
		was := slices.Clone(room)
		want := tell(twinSweep(b, 5))
		l, e := Sweep(b, 5)
		other, _ := Sweep(b, 5)
		spoilItems(other)
		if tell(l) != want || e != api.OK || !slices.Equal(room, was) {
			t.Fatalf("Sweep(%x, 5): %.300q, %d, the bytes are now %x", was, tell(l), e, room)
		}
		spoil(b, 0x55)
		if tell(l) != want {
			t.Fatalf("the answer has changed: %.300q; want %.300q", tell(l), want)
		}
	}
}

// R5: no two lists of one answer share memory, the room behind their ends neither.
func TestListsOfOneAnswer(t *testing.T) {
	o := oneBlock(1, false, counted(1500), labelsAt(2, 3, 7, 300, 301)...)
	l, _ := List(o)
	for n := range l {
		var others []api.Item
		others = append(append(others, l[:n]...), l[n+1:]...)
		was := tell(others)
		spoil(l[n].Bytes, byte(n))
		if tell(others) != was {
			t.Fatalf("item %d shares its bytes with another one", n)
		}
	}
	kept := tell(l)
	_ = append(l, api.Item{Kind: 98})
	if again, _ := List(o); tell(again) != tell(twinList(o)) || tell(l) != kept {
		t.Error("two answers share memory")
	}
}

// over is a text that lies in bytes which can be written over.
func over(b []byte) string { return unsafe.String(&b[0], len(b)) }

// R5: names that List and Lines answer are their own, wherever the label stands.
func TestNamesHandedIn(t *testing.T) {
	for _, at := range []int{0, 4, 5, 6, 8} {
		name := []byte("fade")
		o := oneBlock(4, true, []byte{0xf8, 0, 0xc4, 0xc4}, api.Label{Name: over(name), At: at})
		l, _ := List(o)
		text, _ := Lines(o)
		clear(name)
		if !strings.Contains(tell(l), "1 fade 0") || !strings.Contains(text, "fade:\n") {
			t.Errorf("a label at %d: %q, %q", at, tell(l), text)
		}
	}
}
