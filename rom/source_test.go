package rom

import (
	"testing"

	"vesper/api"
	"vesper/asm"
	"vesper/plain"
	"vesper/source"
	"vesper/sprite"
)

// assembled is the object of the source.
func assembled(t *testing.T) api.Object {
	t.Helper()
	o, e, n := asm.Assemble(Source())
	if e != api.OK {
		t.Fatalf("the item %d is refused: %d", n, e)
	}
	return o
}

// P19.1: the items may be, and come to an object that lies in ROM.
func TestSource(t *testing.T) {
	l := Source()
	if e, n := source.Check(l); e != api.OK || len(l) == 0 {
		t.Fatalf("the item %d of %d may not be: %d", n, len(l), e)
	}
	size := 0
	for n, i := range l {
		bytes, e := source.Size(i)
		if e != api.OK {
			t.Errorf("the item %d: %d", n, e)
		}
		size += bytes
	}
	o := assembled(t)
	laid := 0
	for _, b := range o.Blocks {
		laid += len(b.Bytes)
		if b.At < 0x8000 || b.At+len(b.Bytes) > 0x8200 {
			t.Errorf("%d bytes at %04x", len(b.Bytes), b.At)
		}
	}
	if laid != size || laid == 0 {
		t.Errorf("%d bytes are laid, the items have %d", laid, size)
	}
}

// P19.1: Bytes are the object's, each at its place, and 0 everywhere else.
func TestBytes(t *testing.T) {
	var want [512]byte
	for _, b := range assembled(t).Blocks {
		for k, x := range b.Bytes {
			want[b.At-0x8000+k] = x
		}
	}
	got := Bytes()
	if len(got) != 512 {
		t.Fatalf("%d bytes", len(got))
	}
	for k, x := range want {
		if got[k] != x {
			t.Errorf("%02x at %04x, wanted %02x", got[k], 0x8000+k, x)
		}
	}
}

// P19.1: Labels are the object's, all of them; each label of the source is one.
func TestLabels(t *testing.T) {
	got, want := Labels(), assembled(t).Labels
	if len(got) != len(want) || len(got) == 0 {
		t.Fatalf("%d labels, wanted %d", len(got), len(want))
	}
	at := map[string]int{}
	for k, x := range got {
		if x != want[k] {
			t.Errorf("the label %d is %v, wanted %v", k, x, want[k])
		}
		at[x.Name] = x.At
	}
	for _, i := range Source() {
		if i.Kind != api.ItemLabel {
			continue
		}
		if _, there := at[i.Name]; !there {
			t.Errorf("there is no label %s", i.Name)
		}
		delete(at, i.Name)
	}
	if len(at) != 0 {
		t.Errorf("labels without an item: %v", at)
	}
}

// T7: the object listed by its marks, and assembled anew, has the same bytes.
func TestListed(t *testing.T) {
	l, e := plain.List(assembled(t))
	if e != api.OK {
		t.Fatalf("plain.List: %d", e)
	}
	o, e, n := asm.Assemble(l)
	if e != api.OK {
		t.Fatalf("the item %d of the listing: %d", n, e)
	}
	if b, e := asm.Bytes(o, 0x8000, 0x8200); e != api.OK || string(b) != string(Bytes()) {
		t.Errorf("the listing's bytes are others: %d", e)
	}
}

// P19.2: the sixteen pictures lie in ROM, each wholly among the font's bytes.
func TestFont(t *testing.T) {
	f, all := Font(), Bytes()
	if f.From < 0x8000 || int(f.From)+len(f.Bytes) > 0x8200 {
		t.Fatalf("%d bytes from %04x on", len(f.Bytes), f.From)
	}
	for k, b := range f.Bytes {
		if b != all[int(f.From)-0x8000+k] {
			t.Errorf("%02x at %04x, not ROM's byte", b, int(f.From)+k)
		}
	}
	for k, at := range f.At {
		first := int(at) - int(f.From)
		if first < 0 || first+5 > len(f.Bytes) {
			t.Fatalf("the digit %x lies at %04x, outside", k, at)
		}
		if want := sprite.Digit(byte(k)); string(f.Bytes[first:first+5]) != string(want[:]) {
			t.Errorf("the digit %x: %x, wanted %x", k, f.Bytes[first:first+5], want)
		}
	}
}

// sameItem: two items are alike, nil and empty lists being the same.
func sameItem(a, b api.Item) bool {
	return a.Kind == b.Kind && a.Name == b.Name && a.Arg == b.Arg && a.Label == b.Label && a.Part == b.Part && string(a.Bytes) == string(b.Bytes)
}

// sameItems: two sources are.
func sameItems(a, b []api.Item) bool {
	if len(a) != len(b) {
		return false
	}
	for k := range a {
		if !sameItem(a[k], b[k]) {
			return false
		}
	}
	return true
}

// sameLabels: two lists of labels are.
func sameLabels(a, b []api.Label) bool {
	if len(a) != len(b) {
		return false
	}
	for k := range a {
		if a[k] != b[k] {
			return false
		}
	}
	return true
}

// sameFont: two fonts are.
func sameFont(a, b api.Font) bool {
	return a.At == b.At && a.From == b.From && string(a.Bytes) == string(b.Bytes)
}

// P19.6: two calls answer the same, whatever was asked between.
func TestTwice(t *testing.T) {
	l, b, labels, f := Source(), Bytes(), Labels(), Font()
	for range 3 {
		if !sameFont(Font(), f) || !sameLabels(Labels(), labels) || string(Bytes()) != string(b) || !sameItems(Source(), l) {
			t.Fatal("a second call answers otherwise")
		}
	}
}

// R5: an answer is its own, though all others are written over, and the room behind their ends too.
func TestOwnMemory(t *testing.T) {
	spoilAll()
	l, b, labels, f := Source(), Bytes(), Labels(), Font()
	spoilAll()
	if e, n := source.Check(l); e != api.OK {
		t.Fatalf("the item %d: %d", n, e)
	}
	o, e, n := asm.Assemble(l)
	if e != api.OK {
		t.Fatalf("the item %d: %d", n, e)
	}
	kept, e := asm.Bytes(o, 0x8000, 0x8200)
	if e != api.OK || string(kept) != string(b) || string(b) != string(Bytes()) {
		t.Error("the bytes have changed")
	}
	if !sameLabels(labels, o.Labels) || !sameLabels(labels, Labels()) {
		t.Error("the labels have changed")
	}
	if !sameFont(f, Font()) {
		t.Error("the font has changed")
	}
	for k, at := range Font().At {
		if want := sprite.Digit(byte(k)); string(b[at-0x8000:at-0x8000+5]) != string(want[:]) {
			t.Errorf("the digit %x: %x", k, b[at-0x8000:at-0x8000+5])
		}
	}
}

// R5: no two lists of one answer share memory.
func TestOwnLists(t *testing.T) {
	l, want := Source(), Source()
	for k := range l {
		spoil(l[k].Bytes)
		for n := range l {
			if n > k && !sameItem(l[n], want[n]) {
				t.Fatalf("the items %d and %d share their bytes", k, n)
			}
		}
	}
}

// spoil writes over bytes and all the room behind their end.
func spoil(b []byte) {
	b = b[:cap(b)]
	for k := range b {
		b[k] ^= 0xff
	}
}

// spoilAll writes over an answer of each call.
func spoilAll() {
	l := Source()
	for k := range l {
		spoil(l[k].Bytes)
	}
	l = l[:cap(l)]
	clear(l)
	spoil(Bytes())
	labels := Labels()
	clear(labels[:cap(labels)])
	spoil(Font().Bytes)
}
