package trace

import (
	"vesper/api"
	"vesper/bits"
)

// What stands ahead of the records: four bytes by which the form is known, and the count in four more.
const (
	signature   = "VTR1"
	openingSize = 8
)

// A record's bytes: head and Data, and between them Port and address, if they must be told.
const (
	nearSize = 2
	farSize  = 5
)

// The bits of a record's head.
const (
	headCode  = 0x03
	headRead  = 0x04
	headWrite = 0x08
	headQ     = 0x10
	headMode  = 0x60
	headFar   = 0x80

	modeShift = 5
)

// opening is what stands ahead of so many records, with room for them, if they are near.
func opening(count int) []byte {
	b := make([]byte, 0, openingSize+nearSize*count)
	b = append(b, signature...)
	return append(b, byte(count), byte(count>>8), byte(count>>16), byte(count>>24))
}

func readOpening(b []byte) int {
	need(len(b) >= openingSize)
	need(string(b[:len(signature)]) == signature)
	count := uint32(b[4]) | uint32(b[5])<<8 | uint32(b[6])<<16 | uint32(b[7])<<24
	need(count <= api.MaxCycles)
	return int(count)
}

func appendRecord(b []byte, r api.Record, next uint16) []byte {
	h := headOf(r)
	if !isFar(r, next) {
		return append(b, h, r.Data)
	}
	return append(b, h|headFar, r.Port, bits.Low(r.Address), bits.High(r.Address), r.Data)
}

// isFar says whether Port and address of a record must be told.
func isFar(r api.Record, next uint16) bool {
	return r.Address != next || r.Port != 0
}

func headOf(r api.Record) byte {
	h := r.Code | byte(r.Mode)<<modeShift
	if r.Read {
		h |= headRead
	}
	if r.Write {
		h |= headWrite
	}
	if r.Q {
		h |= headQ
	}
	return h
}

// readRecord is the record with which the bytes begin, and how many of them are its own.
func readRecord(b []byte, next uint16) (api.Record, int) {
	need(len(b) >= nearSize)
	h := b[0]
	r := api.Record{
		Code:    h & headCode,
		Address: next,
		Data:    b[1],
		Read:    h&headRead != 0,
		Write:   h&headWrite != 0,
		Q:       h&headQ != 0,
		Mode:    api.Mode((h & headMode) >> modeShift),
	}
	size := nearSize
	if h&headFar != 0 {
		size = farSize
		need(len(b) >= farSize)
		r.Port, r.Address, r.Data = b[1], bits.Word(b[3], b[2]), b[4]
		// Pack tells them only where it must.
		need(isFar(r, next))
	}
	need(mayBe(r))
	return r, size
}
