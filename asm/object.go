package asm

import (
	"cmp"

	"vesper/api"
	"vesper/code"
	"vesper/source"
)

// behind is the address behind a block's last byte.
func behind(b api.Block) int { return b.At + len(b.Bytes) }

func blocksMayBe(blocks []api.Block) bool {
	least := 0
	for _, b := range blocks {
		if b.At < least || len(b.Bytes) < 1 || len(b.Bytes) > addresses-b.At {
			return false
		}
		// One that touched this one would be a part of it.
		least = behind(b) + 1
	}
	return true
}

// marksMayBe looks at the marks of blocks that may be.
func marksMayBe(blocks []api.Block, marks []api.Mark) bool {
	for _, b := range blocks {
		n, right := marksOf(b, marks)
		if !right {
			return false
		}
		marks = marks[n:]
	}
	return len(marks) == 0
}

// marksOf is how many marks, from the first one on, are the block's; false, if they are not just its bytes.
func marksOf(b api.Block, marks []api.Mark) (int, bool) {
	at, left := b.At, b.Bytes
	n := 0
	for len(left) > 0 {
		if n == len(marks) {
			return 0, false
		}
		m := marks[n]
		if m.At != at || m.Bytes < 1 || m.Bytes > len(left) {
			return 0, false
		}
		if n > 0 && m.Code == marks[n-1].Code || m.Code && !isWhole(left[:m.Bytes]) {
			return 0, false
		}
		at, left = at+m.Bytes, left[m.Bytes:]
		n++
	}
	return n, true
}

// isWhole tells whether bytes are whole instructions, one behind the other.
func isWhole(b []byte) bool {
	for len(b) > 0 {
		_, n, e := code.Decode(b)
		if e != api.OK {
			return false
		}
		b = b[n:]
	}
	return true
}

func labelsMayBe(labels []api.Label) bool {
	places := make(map[string]int, len(labels))
	for n, l := range labels {
		if !isName(l.Name) || l.At < 0 || l.At > mostAddress {
			return false
		}
		if n > 0 && order(labels[n-1], l) > 0 {
			return false
		}
		if _, twice := places[l.Name]; twice {
			return false
		}
		places[l.Name] = l.At
	}
	return true
}

// isName tells whether a text is a label's name, as source has it.
func isName(name string) bool {
	_, e := source.Size(api.Item{Kind: api.ItemLabel, Name: name})
	return e == api.OK
}

// order is the labels' one in an object: by addresses, those of one address by names.
func order(a, b api.Label) int {
	return cmp.Or(cmp.Compare(a.At, b.At), cmp.Compare(a.Name, b.Name))
}
