package code

import (
	"bytes"
	"math"
	"slices"
	"testing"

	"vesper/api"
)

// bytesOf is what the document's table of forms says of an instruction's bytes.
func bytesOf(n named, arg int) []byte {
	switch n.form.form {
	case api.FormReg:
		return []byte{n.op/16*16 + byte(arg)}
	case api.FormPort:
		if n.name == "INP" {
			return []byte{0x60 | byte(arg) | 8}
		}
		return []byte{0x60 | byte(arg)}
	case api.FormByte, api.FormShort:
		return []byte{n.op, byte(arg)}
	case api.FormLong:
		return []byte{n.op, byte(arg / 256), byte(arg % 256)}
	}
	return []byte{n.op}
}

// everyInstruction goes through all instructions: each name with each operand that it may have.
func everyInstruction(t *testing.T, visit func(n named, i api.Instr)) {
	t.Helper()
	for _, n := range everyName(t) {
		for arg := n.least; arg <= n.most; arg++ {
			visit(n, api.Instr{Name: n.name, Arg: arg})
		}
	}
}

// P2.3, P2.6: each instruction has its bytes, and comes back from them, whatever stands behind.
func TestEveryInstructionAsBytes(t *testing.T) {
	seen := map[string]bool{}
	everyInstruction(t, func(n named, i api.Instr) {
		want := bytesOf(n, i.Arg)
		got, e := Encode(i)
		if e != api.OK || !bytes.Equal(got, want) {
			t.Fatalf("Encode(%v) = %x, %d, wanted %x", i, got, e, want)
		}
		if len(got) != n.bytes || seen[string(got)] {
			t.Fatalf("Encode(%v) = %x, as of another one", i, got)
		}
		seen[string(got)] = true
		for _, behind := range [][]byte{nil, {0x00}, {0xff, 0xc0, 0x68, 0x00}} {
			if back, k, e := Decode(slices.Concat(want, behind)); back != i || k != n.bytes || e != api.OK {
				t.Fatalf("Decode(%x %x) = %v, %d, %d, wanted %v", want, behind, back, k, e, i)
			}
		}
	})
	if len(seen) != 35+175+14+(10+15)*256+7*65536 { // without an operand, of registers, of ports, of two bytes, of three
		t.Errorf("%d instructions were looked at", len(seen))
	}
}

// P2.3: operands that a form does not have.
func TestEncodeOfNoOperand(t *testing.T) {
	for _, n := range everyName(t) {
		for _, arg := range []int{n.least - 1, n.most + 1, -1, -n.most, n.most + 256, n.most + 65536, 1 << 20, 1 << 32, 1<<32 + n.most, math.MaxInt, math.MinInt} {
			if arg >= n.least && arg <= n.most {
				continue
			}
			if b, e := Encode(api.Instr{Name: n.name, Arg: arg}); b != nil || e != api.ErrCodeArg {
				t.Errorf("Encode(%s %d) = %x, %d", n.name, arg, b, e)
			}
			if s, e := Print(api.Instr{Name: n.name, Arg: arg}); s != "" || e != api.ErrCodeArg {
				t.Errorf("Print(%s %d) = %q, %d", n.name, arg, s, e)
			}
		}
	}
}

// P2.3: names that are none, ahead of what is wrong with the operand.
func TestEncodeOfNoName(t *testing.T) {
	for _, name := range namesThatAreNone(t) {
		for _, arg := range []int{0, 1, -1, 65536} {
			if b, e := Encode(api.Instr{Name: name, Arg: arg}); b != nil || e != api.ErrCodeName {
				t.Errorf("Encode(%q %d) = %x, %d", name, arg, b, e)
			}
			if s, e := Print(api.Instr{Name: name, Arg: arg}); s != "" || e != api.ErrCodeName {
				t.Errorf("Print(%q %d) = %q, %d", name, arg, s, e)
			}
		}
	}
}

// P2.3: the document's examples and its edges.
func TestEncodeExamples(t *testing.T) {
	for _, x := range []struct {
		name string
		arg  int
		want string
		e    api.Errno
	}{
		{"LDN", 0, "", api.ErrCodeArg}, {"LDN", 1, "\x01", api.OK}, {"LDN", 15, "\x0f", api.OK}, {"LDN", 16, "", api.ErrCodeArg},
		{"OUT", 0, "", api.ErrCodeArg}, {"OUT", 1, "\x61", api.OK}, {"OUT", 7, "\x67", api.OK}, {"OUT", 8, "", api.ErrCodeArg},
		{"INP", 0, "", api.ErrCodeArg}, {"INP", 1, "\x69", api.OK}, {"INP", 7, "\x6f", api.OK}, {"INP", 8, "", api.ErrCodeArg},
		{"IDL", 0, "\x00", api.OK}, {"IDL", 1, "", api.ErrCodeArg}, {"IDL", -1, "", api.ErrCodeArg},
		{"LDA", 0, "\x40", api.OK}, {"LDA", 15, "\x4f", api.OK}, {"LDA", 16, "", api.ErrCodeArg}, {"LDA", -1, "", api.ErrCodeArg},
		{"LDI", 0, "\xf8\x00", api.OK}, {"LDI", 255, "\xf8\xff", api.OK}, {"LDI", 256, "", api.ErrCodeArg}, {"BR", -1, "", api.ErrCodeArg}, {"BR", 256, "", api.ErrCodeArg},
		{"LBR", 0, "\xc0\x00\x00", api.OK}, {"LBR", 0x8146, "\xc0\x81\x46", api.OK}, {"LBR", 65535, "\xc0\xff\xff", api.OK}, {"LBR", 65536, "", api.ErrCodeArg},
		{"ldi", 1, "", api.ErrCodeName}, {"", 0, "", api.ErrCodeName}, {"ldi", 256, "", api.ErrCodeName},
	} {
		if b, e := Encode(api.Instr{Name: x.name, Arg: x.arg}); string(b) != x.want || e != x.e {
			t.Errorf("Encode(%s %d) = %x, %d, wanted %x, %d", x.name, x.arg, b, e, x.want, x.e)
		}
	}
}

// P2.4, P2.6: every op with bytes behind it: what is read, how far, and that its bytes are those that were read.
func TestDecodeOfAllOps(t *testing.T) {
	for n := range 256 {
		info := Info(byte(n))
		for _, behind := range [][2]byte{{0x00, 0x00}, {0x10, 0x00}, {0x12, 0xab}, {0x80, 0x7f}, {0xff, 0xff}} {
			row := []byte{byte(n), behind[0], behind[1], 0x99, 0xc0}
			for size := range len(row) + 1 {
				i, k, e := Decode(row[:size])
				if size < info.Bytes {
					if i != (api.Instr{}) || k != 0 || e != api.ErrCodeShort {
						t.Errorf("Decode(%x) = %v, %d, %d", row[:size], i, k, e)
					}
					continue
				}
				if i.Name != info.Name || k != info.Bytes || e != api.OK {
					t.Errorf("Decode(%x) = %v, %d, %d", row[:size], i, k, e)
				}
				if b, e := Encode(i); e != api.OK || !bytes.Equal(b, row[:k]) {
					t.Errorf("Encode(Decode(%x)) = %x, %d", row[:size], b, e)
				}
			}
		}
	}
}

// P2.4: the document's examples.
func TestDecodeExamples(t *testing.T) {
	for _, b := range [][]byte{nil, {}, {0xf8}, {0xc0}, {0xc0, 0x01}, {0x30}, {0x7c}} {
		if i, k, e := Decode(b); i != (api.Instr{}) || k != 0 || e != api.ErrCodeShort {
			t.Errorf("Decode(%x) = %v, %d, %d", b, i, k, e)
		}
	}
	for _, x := range []struct {
		b    []byte
		want api.Instr
		k    int
	}{
		{[]byte{0x30, 0x10, 0x00}, api.Instr{Name: "BR", Arg: 16}, 2},
		{[]byte{0xc0, 0x81, 0x46, 0x00}, api.Instr{Name: "LBR", Arg: 0x8146}, 3},
		{[]byte{0x00}, api.Instr{Name: "IDL"}, 1},
		{[]byte{0x01, 0xf8}, api.Instr{Name: "LDN", Arg: 1}, 1},
		{[]byte{0x67}, api.Instr{Name: "OUT", Arg: 7}, 1},
		{[]byte{0x69}, api.Instr{Name: "INP", Arg: 1}, 1},
		{[]byte{0xef}, api.Instr{Name: "SEX", Arg: 15}, 1},
		{[]byte{0xc4, 0x01, 0x02}, api.Instr{Name: "NOP"}, 1},
	} {
		if i, k, e := Decode(x.b); i != x.want || k != x.k || e != api.OK {
			t.Errorf("Decode(%x) = %v, %d, %d", x.b, i, k, e)
		}
	}
}

// P2.6: a row of bytes is cut into instructions whose bytes, one behind the other, are the row.
func TestRowsAreCutAndJoined(t *testing.T) {
	var row []byte
	for n := range 4096 {
		row = append(row, byte(n*n/7+n*11))
	}
	var joined []byte
	for rest := row; ; {
		i, k, e := Decode(rest)
		if e != api.OK {
			joined = append(joined, rest...)
			break
		}
		b, e := Encode(i)
		if e != api.OK || len(b) != k {
			t.Fatalf("Encode(%v) = %x, %d", i, b, e)
		}
		joined = append(joined, b...)
		rest = rest[k:]
	}
	if !bytes.Equal(joined, row) {
		t.Error("the row comes back otherwise")
	}
}

// What is handed in stays as it is, the room behind its end too; what is answered is new.
func TestBytesAreTheCallersOwn(t *testing.T) {
	room := []byte{0xc0, 0x81, 0x46, 0x55, 0x66}
	kept := slices.Clone(room)
	if i, _, _ := Decode(room[:3]); i.Arg != 0x8146 || !bytes.Equal(room, kept) {
		t.Errorf("%v, and the bytes are %x", i, room)
	}
	for _, i := range []api.Instr{{Name: "NOP"}, {Name: "GLO", Arg: 3}, {Name: "LDI", Arg: 7}, {Name: "LBR", Arg: 0x1234}} {
		first, _ := Encode(i)
		want := slices.Clone(first)
		for k := range first[:cap(first)] {
			first[:cap(first)][k] ^= 0xff
		}
		if again, e := Encode(i); e != api.OK || !bytes.Equal(again, want) {
			t.Errorf("Encode(%v) = %x, %d the second time", i, again, e)
		}
	}
}
