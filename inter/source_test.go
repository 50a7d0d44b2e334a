package inter

import (
	"testing"

	"vesper/api"
	"vesper/asm"
	"vesper/code"
	"vesper/plain"
	"vesper/rom"
	"vesper/source"
)

// assembled is the object of the source.
func assembled(t *testing.T) api.Object {
	t.Helper()
	o, e, n := asm.Assemble(Source())
	if e != api.OK {
		t.Fatalf("the item %d is refused: %d", n, e)
	}
	return o
}

// P20.1: the items may be, and come to an object that lies from 0000 to 01FF.
func TestSource(t *testing.T) {
	l := Source()
	if e, n := source.Check(l); e != api.OK || len(l) == 0 {
		t.Fatalf("the item %d of %d may not be: %d", n, len(l), e)
	}
	size := 0
	for n, i := range l {
		bytes, e := source.Size(i)
		if e != api.OK {
			t.Errorf("the item %d: %d", n, e)
		}
		size += bytes
	}
	laid := 0
	for _, b := range assembled(t).Blocks {
		laid += len(b.Bytes)
		if b.At < 0 || b.At+len(b.Bytes) > 0x200 {
			t.Errorf("%d bytes at %04x", len(b.Bytes), b.At)
		}
	}
	if laid != size || laid == 0 {
		t.Errorf("%d bytes are laid, the items have %d", laid, size)
	}
}

// Each of the texts is a source, and none of it is lost.
func TestParts(t *testing.T) {
	n := len(pictures()) + len(placed(fetchAt))
	for k, text := range []string{beginning, fetching, kinds, noughts, drawing, throwing, jumping, skipping, setting, reckoning, choosing, moving, timing, waiting, pointing, splitting} {
		l, e, line := source.Parse(text)
		if e != api.OK || len(l) == 0 {
			t.Errorf("the text %d has %d items; the line %d: %d", k, len(l), line, e)
		}
		n += len(l)
	}
	if got := len(Source()); got != n {
		t.Errorf("%d items, the parts have %d", got, n)
	}
}

// P20.1: Bytes are the object's, each at its place, and 0 everywhere else.
func TestBytes(t *testing.T) {
	var want [512]byte
	for _, b := range assembled(t).Blocks {
		for k, x := range b.Bytes {
			want[b.At+k] = x
		}
	}
	got := Bytes()
	if len(got) != 512 {
		t.Fatalf("%d bytes", len(got))
	}
	for k, x := range want {
		if got[k] != x {
			t.Errorf("%02x at %04x, wanted %02x", got[k], k, x)
		}
	}
}

// instructions are the ops of the object's code, by their addresses.
func instructions(t *testing.T) map[int]byte {
	t.Helper()
	o, ops := assembled(t), map[int]byte{}
	all, e := asm.Bytes(o, 0, 512)
	if e != api.OK {
		t.Fatalf("asm.Bytes: %d", e)
	}
	for _, m := range o.Marks {
		for at := m.At; m.Code && at < m.At+m.Bytes; at += code.Info(all[at]).Bytes {
			ops[at] = all[at]
		}
	}
	return ops
}

// P20.1: Fetch is the first byte of an instruction, and the loop's label; what the interpreter begins with ends right ahead of it.
func TestFetch(t *testing.T) {
	if at, is := asm.Find(assembled(t), "fetch"); !is || at != int(Fetch()) {
		t.Errorf("the label lies at %04x: %v", at, is)
	}
	size := 0
	for _, i := range part(beginning) {
		n, _ := source.Size(i)
		size += n
	}
	if size != int(Fetch()) {
		t.Errorf("the beginning has %d bytes", size)
	}
	if _, is := instructions(t)[int(Fetch())]; !is || Fetch() > 0x1ff {
		t.Errorf("no instruction begins at %04x", Fetch())
	}
}

// No instruction is a long one; none lets IE go on or off; none lets go of the chip; just one switches it on.
func TestInstructions(t *testing.T) {
	on := 0
	for at, op := range instructions(t) {
		switch name := code.Info(op).Name; {
		case op>>4 == 0xc, name == "RET", name == "DIS", op == 0x61:
			t.Errorf("%s at %04x", name, at)
		case op == 0x69:
			on++
		}
	}
	if on != 1 {
		t.Errorf("INP 1 stands there %d times", on)
	}
}

// T7: the object listed by its marks, and assembled anew, has the same bytes.
func TestListed(t *testing.T) {
	l, e := plain.List(assembled(t))
	if e != api.OK {
		t.Fatalf("plain.List: %d", e)
	}
	o, e, n := asm.Assemble(l)
	if e != api.OK {
		t.Fatalf("the item %d of the listing: %d", n, e)
	}
	if b, e := asm.Bytes(o, 0, 512); e != api.OK || string(b) != string(Bytes()) {
		t.Errorf("the listing's bytes are others: %d", e)
	}
}

// What the interpreter takes for granted of ROM: the pictures lie in one page, five bytes each, in their order.
func TestPictures(t *testing.T) {
	at, there := asm.Find(assembled(t), "pictures")
	for k, a := range rom.Font().At {
		if !there || int(a) != at+5*k || int(a)>>8 != at>>8 {
			t.Errorf("the digit %x lies at %04x, the first one at %04x", k, a, at)
		}
	}
}

// sameItem: two items are alike, nil and empty lists being the same.
func sameItem(a, b api.Item) bool {
	return a.Kind == b.Kind && a.Name == b.Name && a.Arg == b.Arg && a.Label == b.Label && a.Part == b.Part && string(a.Bytes) == string(b.Bytes)
}

// sameItems: two sources are.
func sameItems(a, b []api.Item) bool {
	if len(a) != len(b) {
		return false
	}
	for k := range a {
		if !sameItem(a[k], b[k]) {
			return false
		}
	}
	return true
}

// P20.6: two calls answer the same, whatever was asked between.
func TestTwice(t *testing.T) {
	l, b, f := Source(), Bytes(), Fetch()
	for range 3 {
		if Fetch() != f || string(Bytes()) != string(b) || !sameItems(Source(), l) {
			t.Fatal("a second call answers otherwise")
		}
	}
}

// spoil writes over bytes and all the room behind their end.
func spoil(b []byte) {
	b = b[:cap(b)]
	for k := range b {
		b[k] ^= 0xff
	}
}

// spoilAll writes over an answer of each call.
func spoilAll() {
	l := Source()
	for k := range l {
		spoil(l[k].Bytes)
	}
	clear(l[:cap(l)])
	spoil(Bytes())
}

// R5: an answer is its own, though all others are written over, and the room behind their ends too.
func TestOwnMemory(t *testing.T) {
	spoilAll()
	l, b := Source(), Bytes()
	spoilAll()
	o, e, n := asm.Assemble(l)
	if e != api.OK {
		t.Fatalf("the item %d: %d", n, e)
	}
	kept, e := asm.Bytes(o, 0, 512)
	if e != api.OK || string(kept) != string(b) || string(b) != string(Bytes()) {
		t.Error("the bytes have changed")
	}
	if !sameItems(l, Source()) {
		t.Error("the source has changed")
	}
}

// R5: no two lists of one answer share memory.
func TestOwnLists(t *testing.T) {
	l, want := Source(), Source()
	for k := range l {
		spoil(l[k].Bytes)
		for n := range l {
			if n > k && !sameItem(l[n], want[n]) {
				t.Fatalf("the items %d and %d share their bytes", k, n)
			}
		}
	}
}
