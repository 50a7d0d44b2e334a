package asm

import (
	"vesper/api"
	"vesper/code"
)

const addressSize = 2

// piece is what an item is to the assembler: each kind of item has a type of its own.
type piece interface {
	// take takes up what the piece needs of the sheet, from the place on.
	take(s *sheet) api.Errno
	// bytes are what it lays; target is the address of the label that it asks for, if it asks for one.
	bytes(target int) []byte
}

// label is an ItemLabel.
type label struct{ name string }

func (l label) take(s *sheet) api.Errno { return s.name(l.name) }

func (l label) bytes(int) []byte { return nil }

// move is an ItemAt.
type move struct{ to int }

func (m move) take(s *sheet) api.Errno {
	s.place = m.to
	return api.OK
}

func (m move) bytes(int) []byte { return nil }

// data is an ItemData.
type data struct{ row []byte }

func (d data) take(s *sheet) api.Errno { return s.claim(len(d.row), dataByte) }

func (d data) bytes(int) []byte { return d.row }

// address is an ItemAddress.
type address struct{ label string }

func (a address) take(s *sheet) api.Errno { return s.claim(addressSize, dataByte) }

func (a address) bytes(target int) []byte {
	return []byte{byte(target >> byteBits), byte(target)}
}

// plain is an ItemCode without a label.
type plain struct{ row []byte }

func (p plain) take(s *sheet) api.Errno { return s.claim(len(p.row), codeByte) }

func (p plain) bytes(int) []byte { return p.row }

// labelled is an ItemCode with a label.
type labelled struct {
	info  api.Info
	label string
	part  api.Part
}

func (l labelled) take(s *sheet) api.Errno { return s.claim(l.info.Bytes, codeByte) }

func (l labelled) bytes(target int) []byte {
	return encode(l.info.Name, l.operand(target))
}

func (l labelled) operand(target int) int {
	switch {
	case l.part == api.PartHigh:
		return target >> byteBits
	case l.part == api.PartLow, l.info.Form == api.FormShort:
		return target & lowByte
	}
	return target
}

// leaves tells whether it is a short branch, laid from at on, whose page the target does not lie in.
func (l labelled) leaves(at, target int) bool {
	operandAt := at + 1
	return l.info.Form == api.FormShort && target>>byteBits != operandAt>>byteBits
}

// pieceOf is the piece of an item that may be.
func pieceOf(i api.Item) piece {
	switch i.Kind {
	case api.ItemLabel:
		return label{i.Name}
	case api.ItemAt:
		return move{i.Arg}
	case api.ItemData:
		return data{i.Bytes}
	case api.ItemAddress:
		return address{i.Label}
	}
	if i.Part == api.PartNone {
		return plain{encode(i.Name, i.Arg)}
	}
	info, _ := code.Find(i.Name)
	return labelled{info, i.Label, i.Part}
}

// encode is the bytes of an instruction that may be.
func encode(name string, arg int) []byte {
	b, _ := code.Encode(api.Instr{Name: name, Arg: arg})
	return b
}
