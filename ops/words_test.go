package ops

import (
	"testing"

	"vesper/api"
)

// wantOrder: Encode and Print of anything are what the chapter says.
func wantOrder(t *testing.T, o api.Order) {
	t.Helper()
	k, is := byOrder[o]
	want := api.OK
	if !is {
		want = api.ErrOpsNone
	}
	if w, e := Encode(o); w != k.word || e != want {
		t.Fatalf("Encode(%+v): %04x, %d; want %04x, %d", o, w, e, k.word, want)
	}
	if line, e := Print(o); line != k.line || e != want {
		t.Fatalf("Print(%+v): %q, %d; want %q, %d", o, line, e, k.line, want)
	}
}

// P16.1, P16.2, P16.5: all words, decoded and encoded back.
func TestAllWords(t *testing.T) {
	orders := 0
	for n := range 65536 {
		w := uint16(n)
		k, want := byWord[w]
		o, is := Decode(w)
		if o != k.order || is != want {
			t.Fatalf("Decode(%04x): %+v, %t; want %+v, %t", w, o, is, k.order, want)
		}
		if !is {
			continue
		}
		orders++
		if back, e := Encode(o); back != w || e != api.OK {
			t.Fatalf("Encode(%+v): %04x, %d; want %04x", o, back, e, w)
		}
	}
	if orders != 47024 {
		t.Errorf("%d words are orders", orders)
	}
}

// P16.1: each row has just as many words as its fields say; which ones lie beside those of few fields.
func TestWordsOfRows(t *testing.T) {
	count := map[api.Op]int{}
	for n := range 65536 {
		if o, is := Decode(uint16(n)); is {
			count[o.Op]++
		}
	}
	for _, r := range chapter {
		want := 1
		for _, sign := range r.word {
			if sign == 'X' || sign == 'Y' || sign == 'N' {
				want *= 16
			}
		}
		if r.op == api.OpMachine {
			want -= 2
		}
		if count[r.op] != want {
			t.Errorf("%s: %d words; want %d", r.word, count[r.op], want)
		}
	}
	for _, w := range []uint16{0x5001, 0x500f, 0x8003, 0x8006, 0x8007, 0x800e, 0x9001, 0xe09d, 0xe09f, 0xe0a0, 0xe0a2, 0xe000, 0xf006, 0xf008, 0xf009, 0xf00b, 0xf014, 0xf016, 0xf017, 0xf019, 0xf01d, 0xf01f, 0xf028, 0xf02a, 0xf030, 0xf032, 0xf034, 0xf054, 0xf056, 0xf064, 0xf066, 0xf075, 0xf085, 0xffff} {
		if o, is := Decode(w); o != (api.Order{}) || is {
			t.Errorf("Decode(%04x): %+v, %t", w, o, is)
		}
	}
}

// part is a field of an order, with the greatest value that it may have, where a row names it.
type part struct {
	sign string
	most int
	set  func(o *api.Order, v int)
}

func parts() []part {
	return []part{
		{"X", 15, func(o *api.Order, v int) { o.X = byte(v) }},
		{"Y", 15, func(o *api.Order, v int) { o.Y = byte(v) }},
		{"N", 15, func(o *api.Order, v int) { o.N = byte(v) }},
		{"NN", 255, func(o *api.Order, v int) { o.Byte = byte(v) }},
		{"NNN", 4095, func(o *api.Order, v int) { o.At = uint16(v) }},
	}
}

// names are the fields that a row of the chapter has.
func names(r told) map[string]bool {
	n := map[string]bool{}
	run := ""
	for _, sign := range r.word[1:] {
		switch sign {
		case 'X', 'Y':
			n[string(sign)] = true
		case 'N':
			run += "N"
		}
	}
	if run != "" {
		n[run] = true
	}
	return n
}

// P16.2: each row with each of its fields at its least, its greatest and beyond; with each other field at 1 and above.
func TestFieldsOfRows(t *testing.T) {
	for _, r := range chapter {
		has := names(r)
		for _, p := range parts() {
			o := api.Order{Op: r.op}
			if !has[p.sign] {
				for _, v := range []int{1, 2, 15, 16, 128, 255} {
					p.set(&o, v)
					if w, e := Encode(o); w != 0 || e != api.ErrOpsNone {
						t.Errorf("%s with %s %d: %04x, %d", r.word, p.sign, v, w, e)
					}
					wantOrder(t, o)
				}
				continue
			}
			for _, v := range []int{0, 1, p.most - 1, p.most} {
				p.set(&o, v)
				if _, e := Encode(o); e != api.OK {
					t.Errorf("%s with %s %d: %d", r.word, p.sign, v, e)
				}
				wantOrder(t, o)
			}
			if p.sign == "NN" {
				continue // no byte is above the greatest one
			}
			for _, v := range []int{p.most + 1, p.most + 2, 2 * (p.most + 1), 4*(p.most+1) + 1, 16*(p.most+1) - 1} {
				p.set(&o, v)
				if w, e := Encode(o); w != 0 || e != api.ErrOpsNone {
					t.Errorf("%s with %s %d: %04x, %d", r.word, p.sign, v, w, e)
				}
				wantOrder(t, o)
			}
		}
	}
}

// P16.2: what is no Op, with fields and without.
func TestNoOps(t *testing.T) {
	for n := range 256 {
		if 1 <= n && n <= 31 {
			continue
		}
		for _, o := range []api.Order{{}, {X: 1}, {Y: 1}, {N: 1}, {Byte: 1}, {At: 1}, {At: 0x200}, {X: 1, Y: 2, N: 3}} {
			o.Op = api.Op(n)
			if w, e := Encode(o); w != 0 || e != api.ErrOpsNone {
				t.Errorf("Encode(%+v): %04x, %d", o, w, e)
			}
			if line, e := Print(o); line != "" || e != api.ErrOpsNone {
				t.Errorf("Print(%+v): %q, %d", o, line, e)
			}
		}
	}
}

// P16.2: calls of machine code at the words of clear and return, and beside them.
func TestMachine(t *testing.T) {
	for at := range 65536 {
		o := api.Order{Op: api.OpMachine, At: uint16(at)}
		want, wantE := uint16(at), api.OK
		if at == 0xe0 || at == 0xee || at > 0xfff {
			want, wantE = 0, api.ErrOpsNone
		}
		if w, e := Encode(o); w != want || e != wantE {
			t.Fatalf("machine %x: %04x, %d; want %04x, %d", at, w, e, want, wantE)
		}
	}
	for _, op := range []api.Op{api.OpJump, api.OpCall, api.OpPoint, api.OpJumpBy} {
		for _, at := range []uint16{0x0e0, 0x0ee} {
			wantOrder(t, api.Order{Op: op, At: at})
		}
	}
}

// P16.2, P16.3: edges of all fields together, with Ops that there are and others.
func TestAllFields(t *testing.T) {
	ops := []int{64, 127, 128, 200, 254, 255}
	for n := range 36 {
		ops = append(ops, n)
	}
	edges := []byte{0, 1, 15, 16, 255}
	for _, op := range ops {
		for _, x := range edges {
			for _, y := range edges {
				for _, n := range edges[:4] {
					for _, b := range []byte{0, 1, 255} {
						for _, at := range []uint16{0, 1, 0xe0, 0xee, 0xfff, 0x1000, 0xffff} {
							wantOrder(t, api.Order{Op: api.Op(op), X: x, Y: y, N: n, Byte: b, At: at})
						}
					}
				}
			}
		}
	}
}

// P16.2, P16.5: anything at all; what Encode takes comes back by Decode.
func TestAnyOrder(t *testing.T) {
	d := uint64(1)
	taken := 0
	small := func(most int) int {
		if draw(&d, 2) == 0 {
			return 0
		}
		return draw(&d, most)
	}
	for range 60000 {
		o := api.Order{Op: api.Op(draw(&d, 33)), X: byte(small(18)), Y: byte(small(18)), N: byte(small(18)), Byte: byte(small(256)), At: uint16(small(4100))}
		wantOrder(t, o)
		w, e := Encode(o)
		if e != api.OK {
			continue
		}
		taken++
		if back, is := Decode(w); back != o || !is {
			t.Fatalf("Decode(%04x): %+v, %t; want %+v", w, back, is, o)
		}
	}
	if taken < 3000 {
		t.Errorf("%d orders", taken)
	}
}
