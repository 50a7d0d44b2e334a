package plain

import (
	"fmt"
	"slices"
	"strings"
	"testing"

	"vesper/api"
)

// P15.3: lines of instructions of one, two and three bytes, of labels, and none of an ItemAt.
func TestCodeLines(t *testing.T) {
	wantLines(t, oneBlock(0, true, []byte{0xc4}), "0000  c4        NOP\n")
	wantLines(t, oneBlock(0xab, true, []byte{0xf8, 0x0f}), "00ab  f8 0f     LDI 0f\n")
	wantLines(t, oneBlock(0xfffd, true, []byte{0xc0, 0x0a, 0xbc}), "fffd  c0 0a bc  LBR 0abc\n")
	wantLines(t, built(t, " at 1000\nstart:\nhere:\n GLO f\n OUT 3\n INP 7\n BNZ 10\n LBNF abcd\nthere:\n at 0001\nlow:\n IDL\n at 1001\nin:\n at 1004\nwithin:\n at 0000\nzero:\n"), strings.Join([]string{
		"zero:", "low:", "0001  00        IDL", "here:", "start:", "1000  8f        GLO f", "in:", "1001  63        OUT 3", "1002  6f        INP 7", "1003  3a 10     BNZ 10",
		"1005  cb ab cd  LBNF abcd", "there:", "within:", "",
	}, "\n"))
}

// P15.3: lines of data of 1, 7, 8, 9 and 256 bytes, and of rows that a label or 256 bytes end.
func TestDataLines(t *testing.T) {
	wantLines(t, oneBlock(0, false, []byte{7}), "0000  07\n")
	wantLines(t, oneBlock(0x10, false, []byte{1, 2, 3, 4, 5, 6, 0xff}), "0010  01 02 03 04 05 06 ff\n")
	wantLines(t, oneBlock(0x10, false, []byte{1, 2, 3, 4, 5, 6, 7, 0xff}), "0010  01 02 03 04 05 06 07 ff\n")
	wantLines(t, oneBlock(0x10, false, []byte{1, 2, 3, 4, 5, 6, 7, 8, 0xff}), "0010  01 02 03 04 05 06 07 08\n0018  ff\n")
	wantLines(t, oneBlock(0xffff, false, []byte{0xff}), "ffff  ff\n")
	wantLines(t, oneBlock(0xfff7, false, []byte{1, 2, 3, 4, 5, 6, 7, 8, 9}), "fff7  01 02 03 04 05 06 07 08\nffff  09\n")
	var lines string
	for n := range 32 {
		lines += fmt.Sprintf("%04x  % x\n", 3+8*n, counted(256)[8*n:8*n+8])
	}
	wantLines(t, oneBlock(3, false, counted(256)), lines)
	wantLines(t, oneBlock(3, false, counted(257)), lines+fmt.Sprintf("0103  %02x\n", counted(257)[256]))
	// A row that begins anew begins a line of its own.
	wantLines(t, oneBlock(3, false, counted(260), labelsAt(4)...), "0003  00\nl00000:\n"+twinLines([]api.Item{{Kind: api.ItemAt, Arg: 4}, {Kind: api.ItemData, Bytes: counted(257)[1:]}, {Kind: api.ItemData, Bytes: counted(260)[257:]}}))
	wantLines(t, oneBlock(0, false, []byte{1, 2, 3, 4, 5}, labelsAt(2, 2, 3)...), "0000  01 02\nl00000:\nl00001:\n0002  03\nl00002:\n0003  04 05\n")
	wantLines(t, built(t, " data 01 02\n NOP\n data 03\n LDI 04\n"), "0000  01 02\n0002  c4        NOP\n0003  03\n0004  f8 04     LDI 04\n")
	for size := 1; size < 600; size++ {
		wantTwin(t, oneBlock(size, false, counted(size)))
	}
}

// namesFor are different names whose lines have just so many bytes together (12 at least); they rise.
func namesFor(bytes int) []string {
	var names []string
	for bytes > 0 {
		line := 12
		if bytes < 24 {
			line = min(bytes, 18)
			if left := bytes - line; left > 0 && left < 9 {
				line = bytes - 9
			}
		}
		bytes -= line
		names = append(names, fmt.Sprintf("n%0*d", line-3, len(names)))
	}
	slices.Sort(names)
	return names
}

// filledTo adds labels at an address to an object that has none there or behind it, so that its lines have just so many bytes.
func filledTo(t *testing.T, o api.Object, at, bytes int) api.Object {
	t.Helper()
	o.Labels = slices.Clone(o.Labels)
	for _, n := range namesFor(bytes - len(twinLines(twinList(o)))) {
		o.Labels = append(o.Labels, api.Label{Name: n, At: at})
	}
	if n := len(twinLines(twinList(o))); n != bytes {
		t.Fatalf("filled to %d bytes: %d", bytes, n)
	}
	return o
}

// P15.3: texts of MaxText bytes and of one more: of labels alone, of code, of data, of all of them.
func TestLongLines(t *testing.T) {
	mixed := api.Object{}
	for n := range 400 {
		mixed.Blocks = append(mixed.Blocks, api.Block{At: 64 * n, Bytes: slices.Concat([]byte{0xf8, byte(n), 0xc4}, counted(20), []byte{0xc0, 0xf8, byte(n)})})
		mixed.Marks = append(mixed.Marks, api.Mark{At: 64 * n, Bytes: 3, Code: true}, api.Mark{At: 64*n + 3, Bytes: 20}, api.Mark{At: 64*n + 23, Bytes: 3, Code: true})
	}
	for _, o := range []api.Object{
		{}, oneBlock(0, true, make([]byte, 1000)), oneBlock(0, true, make([]byte, 3275)), oneBlock(0, false, counted(5000)), oneBlock(0, false, counted(17460)), oneBlock(5, true, slices.Repeat([]byte{0xc0}, 6000)), mixed,
	} {
		for _, at := range []int{40000, 65535} {
			for _, bytes := range []int{65535, 65536, 65537, 65538} {
				full := filledTo(t, o, at, bytes)
				text, e := Lines(full)
				if bytes <= 65536 && (len(text) != bytes || e != api.OK) || bytes > 65536 && (text != "" || e != api.ErrLong) {
					t.Errorf("Lines that are %d bytes: %d, %d", bytes, len(text), e)
				}
				wantTwin(t, full)
			}
		}
	}
}

// P15.3: code and data that are too long by themselves, the last line or the first byte of it being too much.
func TestLinesTooLong(t *testing.T) {
	for size := 3270; size < 3285; size++ {
		text, e := Lines(oneBlock(0, true, make([]byte, size)))
		if fits := 20*size <= 65536; fits && (len(text) != 20*size || e != api.OK) || !fits && (text != "" || e != api.ErrLong) {
			t.Errorf("%d instructions: %d bytes, %d", size, len(text), e)
		}
	}
	for size := 17450; size < 17500; size++ {
		wantTwin(t, oneBlock(1, false, counted(size)))
	}
	for _, o := range []api.Object{oneBlock(0, false, make([]byte, 65536)), oneBlock(0, true, make([]byte, 65536)), {Labels: labelsAt(make([]int, 90000)...)}} {
		if text, e := Lines(o); text != "" || e != api.ErrLong {
			t.Errorf("%d bytes, %d", len(text), e)
		}
		if l, e := List(o); len(l) < 256 || e != api.OK {
			t.Errorf("%d items, %d", len(l), e)
		}
	}
}
