package trace

import (
	"bytes"
	"encoding/binary"
	"slices"
	"testing"

	"vesper/api"
)

// twinRecord is a record's bytes, written once more by the document.
func twinRecord(r api.Record, next uint16) []byte {
	head := int(r.Code) + 32*int(r.Mode)
	for i, on := range []bool{r.Read, r.Write, r.Q} {
		if on {
			head += 4 << i
		}
	}
	var b []byte
	if r.Address != next || r.Port != 0 {
		head += 128
		b = binary.LittleEndian.AppendUint16([]byte{r.Port}, r.Address)
	}
	return append(append([]byte{byte(head)}, b...), r.Data)
}

// twinBytes is the bytes of records that may be.
func twinBytes(l []api.Record) []byte {
	b := binary.LittleEndian.AppendUint32([]byte("VTR1"), uint32(len(l)))
	next := 0
	for _, r := range l {
		b = append(b, twinRecord(r, uint16(next))...)
		next = int(r.Address) + 1
	}
	return b
}

// twinUnpack reads bytes by guessing each record and holding its own bytes against those that are there.
func twinUnpack(b []byte) ([]api.Record, api.Errno, int) {
	if len(b) < 8 || !bytes.HasPrefix(b, []byte("VTR1")) || binary.LittleEndian.Uint32(b[4:]) > 4194304 {
		return nil, api.ErrTraceBytes, 0
	}
	var l []api.Record
	place, next := 8, uint16(0)
	for range binary.LittleEndian.Uint32(b[4:]) {
		r, ok := guess(b[place:], next)
		if !ok {
			return nil, api.ErrTraceBytes, place
		}
		l = append(l, r)
		place += len(twinRecord(r, next))
		next = r.Address + 1
	}
	if place < len(b) {
		return nil, api.ErrTraceBytes, place
	}
	return l, api.OK, 0
}

func guess(b []byte, next uint16) (api.Record, bool) {
	long := append(slices.Clone(b), 0, 0, 0, 0, 0)
	head := long[0]
	r := api.Record{Code: head % 4, Read: head/4%2 == 1, Write: head/8%2 == 1, Q: head/16%2 == 1, Mode: api.Mode(head / 32 % 4)}
	near, far := r, r
	near.Address, near.Data = next, long[1]
	far.Port, far.Address, far.Data = long[1], binary.LittleEndian.Uint16(long[2:]), long[4]
	for _, x := range []api.Record{near, far} {
		if x.Port < 8 && !(x.Read && x.Write) && bytes.HasPrefix(b, twinRecord(x, next)) {
			return x, true
		}
	}
	return api.Record{}, false
}

func wantFault(t *testing.T, b []byte, place int) {
	t.Helper()
	if l, e, at := Unpack(b); len(l) != 0 || e != api.ErrTraceBytes || at != place {
		t.Errorf("Unpack of %.40x (%d bytes): %d records, %d, %d; want place %d", b, len(b), len(l), e, at, place)
	}
}

// whole is bytes that say so many records, and what stands behind that.
func whole(count uint32, b ...byte) []byte {
	return append(binary.LittleEndian.AppendUint32([]byte("VTR1"), count), b...)
}

// P9.3, P9.4: traces and their bytes: each bit of a head by itself, all of them, next addresses and others.
func TestBytes(t *testing.T) {
	for _, x := range []struct {
		l []api.Record
		b []byte
	}{
		{[]api.Record{{}}, []byte{0x00, 0x00}},
		{[]api.Record{{Code: 1}}, []byte{0x01, 0x00}},
		{[]api.Record{{Code: 2}}, []byte{0x02, 0x00}},
		{[]api.Record{{Code: 3}}, []byte{0x03, 0x00}},
		{[]api.Record{{Data: 0xff}}, []byte{0x00, 0xff}},
		{[]api.Record{{Read: true}}, []byte{0x04, 0x00}},
		{[]api.Record{{Write: true}}, []byte{0x08, 0x00}},
		{[]api.Record{{Q: true}}, []byte{0x10, 0x00}},
		{[]api.Record{{Mode: api.Pause}}, []byte{0x20, 0x00}},
		{[]api.Record{{Mode: api.Reset}}, []byte{0x40, 0x00}},
		{[]api.Record{{Mode: api.Load}}, []byte{0x60, 0x00}},
		{[]api.Record{{Port: 1}}, []byte{0x80, 1, 0, 0, 0}},
		{[]api.Record{{Port: 7, Data: 5}}, []byte{0x80, 7, 0, 0, 5}},
		{[]api.Record{{Address: 1}}, []byte{0x80, 0, 1, 0, 0}},
		{[]api.Record{{Address: 0x0100, Data: 0x21}}, []byte{0x80, 0, 0, 1, 0x21}},
		{[]api.Record{{Address: 0xffff}}, []byte{0x80, 0, 0xff, 0xff, 0}},
		{[]api.Record{{Code: 3, Address: 0xbeef, Data: 0xa7, Read: true, Port: 5, Q: true, Mode: api.Load}}, []byte{0xf7, 5, 0xef, 0xbe, 0xa7}},
		{[]api.Record{{Code: 2, Data: 0x5b, Write: true, Q: true, Mode: api.Pause}}, []byte{0x3a, 0x5b}},
		{[]api.Record{{}, {Address: 1}, {Address: 2}}, []byte{0, 0, 0, 0, 0, 0}},
		{[]api.Record{{}, {Address: 1, Port: 3}, {Address: 2}}, []byte{0, 0, 0x80, 3, 1, 0, 0, 0, 0}},
		{[]api.Record{{}, {}, {}}, []byte{0, 0, 0x80, 0, 0, 0, 0, 0x80, 0, 0, 0, 0}},
		{[]api.Record{{}, {Address: 2}, {Address: 3}}, []byte{0, 0, 0x80, 0, 2, 0, 0, 0, 0}},
		{[]api.Record{{Address: 0xffff}, {Data: 9}}, []byte{0x80, 0, 0xff, 0xff, 0, 0, 9}},
		{[]api.Record{{Address: 0xffff}, {Port: 1}, {Address: 1}}, []byte{0x80, 0, 0xff, 0xff, 0, 0x80, 1, 0, 0, 0, 0, 0}},
		{[]api.Record{{Address: 0xffff}, {Address: 0xffff}}, []byte{0x80, 0, 0xff, 0xff, 0, 0x80, 0, 0xff, 0xff, 0}},
		{[]api.Record{{Address: 0x00ff}, {Address: 0x0100}}, []byte{0x80, 0, 0xff, 0, 0, 0, 0}},
		{[]api.Record{{Address: 0x00ff}, {Address: 0}}, []byte{0x80, 0, 0xff, 0, 0, 0x80, 0, 0, 0, 0}},
	} {
		want := whole(uint32(len(x.l)), x.b...)
		if b, e := Pack(x.l); e != api.OK || !bytes.Equal(b, want) {
			t.Errorf("Pack of %+v: %x, %d; want %x", x.l, b, e, want)
		}
		if l, e, at := Unpack(want); e != api.OK || at != 0 || !slices.Equal(l, x.l) {
			t.Errorf("Unpack of %x: %+v, %d, %d", want, l, e, at)
		}
		for n := range len(want) {
			wantWhole(t, want[:n])
		}
		for _, behind := range [][]byte{{0}, {4}, {0, 0}, {0x80, 0, 0, 0, 0}, {'V', 'T', 'R', '1', 0, 0, 0, 0}} {
			wantFault(t, append(slices.Clone(want), behind...), len(want))
		}
	}
}

// wantWhole holds Unpack against its twin.
func wantWhole(t *testing.T, b []byte) (ok bool) {
	t.Helper()
	want, wantE, wantAt := twinUnpack(b)
	l, e, at := Unpack(b)
	if !slices.Equal(l, want) || e != wantE || at != wantAt {
		t.Fatalf("Unpack of %x: %v, %d, %d; want %v, %d, %d", b, l, e, at, want, wantE, wantAt)
	}
	if e != api.OK {
		return false
	}
	if back, e := Pack(l); e != api.OK || !bytes.Equal(back, b) {
		t.Fatalf("Pack of what Unpack takes of %x: %x, %d", b, back, e)
	}
	return true
}

// P9.4: what does not begin as it must is told at 0, whatever stands behind it.
func TestWrongOpening(t *testing.T) {
	right := chapterBytes()
	for n := range 8 {
		wantFault(t, right[:n], 0)
	}
	wantFault(t, nil, 0)
	wantFault(t, []byte{}, 0)
	for i := range 4 {
		for bit := range 8 {
			b := slices.Clone(right)
			b[i] ^= 1 << bit
			wantFault(t, b, 0)
		}
	}
	for _, b := range [][]byte{[]byte("vtr1\x00\x00\x00\x00"), []byte("1RTV\x00\x00\x00\x00"), []byte("VTR0\x00\x00\x00\x00"), []byte("VTR2\x00\x00\x00\x00"), []byte(" VTR1\x00\x00\x00\x00"), []byte("\x00\x00\x00\x00VTR1"), make([]byte, 8), make([]byte, 1000)} {
		wantFault(t, b, 0)
	}
}

// P9.4: 4194304 records may be said, one more may not, whatever stands behind it.
func TestSaidRecords(t *testing.T) {
	for _, count := range []uint32{4194305, 4194306, 1 << 23, 1 << 24, 1 << 30, 1 << 31, 1<<31 + 1, 1<<32 - 1, 0x01400000, 0x80000000 + 2} {
		wantFault(t, whole(count), 0)
		wantFault(t, whole(count, 4, 1, 4, 2, 4, 3), 0)
		wantFault(t, whole(count, 12, 1), 0)
	}
	for _, count := range []uint32{4194304, 4194303, 1 << 16, 1000, 1} {
		wantFault(t, whole(count), 8)
	}
	wantFault(t, whole(4194304, 4, 1, 4, 2), 12)
	wantFault(t, whole(256, 4, 1), 10)
	wantFault(t, whole(65536, 4, 1), 10)
}

// P9.4: records that are not there whole, or not as Pack writes them: which place is told.
func TestWrongBytes(t *testing.T) {
	for _, x := range []struct {
		b     []byte
		place int
	}{
		// They end within a record, or ahead of it.
		{whole(1), 8}, {whole(1, 0), 8}, {whole(1, 4), 8},
		{whole(1, 0x80), 8}, {whole(1, 0x80, 1), 8}, {whole(1, 0x80, 1, 0), 8}, {whole(1, 0x80, 1, 0, 0), 8},
		{whole(2, 0, 0), 10}, {whole(2, 0, 0, 0), 10}, {whole(2, 0, 0, 0x80, 1, 0, 0), 10}, {whole(3, 0x80, 1, 0, 0, 0, 0, 0), 15},
		// Bytes are left behind the last one.
		{whole(0, 0), 8}, {whole(0, 0, 0), 8}, {whole(1, 0, 0, 0), 10}, {whole(1, 0x80, 1, 0, 0, 0, 9), 13}, {whole(2, 0, 0, 0, 0, 0x80), 12},
		// It reads and writes.
		{whole(1, 0x0c, 0), 8}, {whole(1, 0x7f, 0), 8}, {whole(1, 0x8c, 1, 0, 0, 0), 8}, {whole(2, 4, 0, 0x0c, 0), 10}, {whole(2, 4, 0, 0xff, 7, 1, 0, 0), 10},
		// A port that is none.
		{whole(1, 0x80, 8, 0, 0, 0), 8}, {whole(1, 0x80, 8, 1, 0, 0), 8}, {whole(1, 0x80, 255, 1, 0, 0), 8}, {whole(1, 0x80, 0x80, 0, 0, 0), 8}, {whole(2, 0, 0, 0x80, 8, 1, 0, 0), 10},
		// Bit 7 is set for nothing.
		{whole(1, 0x80, 0, 0, 0, 0), 8}, {whole(1, 0x84, 0, 0, 0, 0xc4), 8}, {whole(2, 0, 0, 0x80, 0, 1, 0, 0), 10}, {whole(2, 0x80, 0, 0xff, 0xff, 0, 0x80, 0, 0, 0, 0), 13},
		// Bit 7 is not set where it must be: Port and address are read as other things.
		{whole(1, 0x00, 1, 0, 0, 0), 10}, {whole(2, 0x19, 2, 0xab, 0x12, 0x0f), 10}, {whole(3, 4, 1, 0x19, 2, 0x05, 0x12, 0x0f), 14},
		// The first of several.
		{whole(2, 0x0c, 0, 0x0c), 8}, {whole(3, 0, 0, 0x80, 0, 1, 0, 0, 0x0c, 0), 10}, {whole(1, 0x0c, 0, 0, 0), 8}, {whole(1, 0x8c, 9, 0), 8},
	} {
		wantFault(t, x.b, x.place)
		wantWhole(t, x.b)
	}
}

// P9.4: every head by itself, with each length behind it.
func TestEveryHead(t *testing.T) {
	for head := range 256 {
		for _, address := range []uint16{0, 1, 0x1234, 0xffff} {
			for port := range 10 {
				far := []byte{byte(head), byte(port), byte(address), byte(address >> 8), 0x5a}
				for n := range 6 {
					wantWhole(t, whole(1, far[:n]...))
					wantWhole(t, whole(2, append([]byte{4, 0}, far[:n]...)...))
				}
			}
		}
	}
}

// P9.3, P9.4, P9.6: many records, some at the next address, there and back.
func TestManyRecords(t *testing.T) {
	d := uint64(3)
	for n := range 300 {
		l := make([]api.Record, n)
		next := uint16(0)
		for i := range l {
			address := next
			switch draw(&d, 8) {
			case 0:
				address = uint16(draw(&d, 65536))
			case 1:
				address = 0xffff
			case 2:
				address = next - 1
			}
			l[i] = randomRecord(&d, address)
			next = address + 1
		}
		wantThereAndBack(t, l)
	}
}

// P9.4, P9.6: bytes of records with a few of them changed, against the twin.
func TestUnpackSweep(t *testing.T) {
	d := uint64(4)
	right, wrong := 0, 0
	for range 60000 {
		l := make([]api.Record, draw(&d, 5))
		next := uint16(0)
		for i := range l {
			if draw(&d, 3) == 0 {
				next = uint16(draw(&d, 4) - 2)
			}
			l[i] = randomRecord(&d, next)
			next++
		}
		b := twinBytes(l)
		for range draw(&d, 3) {
			at := min(draw(&d, len(b)+1), len(b)-1)
			switch draw(&d, 4) {
			case 0:
				b[at] = byte(draw(&d, 256))
			case 1:
				b[at] ^= 1 << draw(&d, 8)
			case 2:
				b = slices.Insert(b, at, byte(draw(&d, 4)))
			case 3:
				b = slices.Delete(b, at, at+1)
			}
		}
		if wantWhole(t, b) {
			right++
		} else {
			wrong++
		}
	}
	if right < 10000 || wrong < 10000 {
		t.Errorf("%d right, %d wrong", right, wrong)
	}
}
