package desk

import (
	"bytes"
	"strconv"

	"vesper/api"
	"vesper/asm"
	"vesper/ops"
	"vesper/plain"
	"vesper/rom"
	"vesper/snap"
	"vesper/source"
	"vesper/vip"
)

func (d *desk) source(l line) (string, error) {
	items, e, at := source.Parse(l.within)
	if e != api.OK {
		return "", refusedAt(e, at)
	}
	o, e, at := asm.Assemble(items)
	if e != api.OK {
		return "", refusedAt(e, at)
	}
	d.object = o
	return sentence("object", strconv.Itoa(len(o.Blocks)), strconv.Itoa(len(o.Labels))), nil
}

func (d *desk) list(line) (string, error) {
	text, e := plain.Lines(d.object)
	return indented(text), refused(e)
}

// monitor makes a machine that begins in the monitor.
func (d *desk) monitor(l line) (string, error) {
	return sentence("ok"), d.begin(api.Config{RAM: l.numbers[0], ROM: rom.Bytes()})
}

// bare makes a machine that has nothing but the object.
func (d *desk) bare(l line) (string, error) {
	ram := l.numbers[0]
	// What was assembled is an object, and the bounds are some that may be.
	image, _ := asm.Bytes(d.object, 0, min(ram, api.MaxRAM))
	firm, _ := asm.Bytes(d.object, api.ROMAt, api.ROMAt+api.ROMSize)
	return sentence("ok"), d.begin(api.Config{RAM: ram, ROM: firm, Image: image})
}

func (d *desk) game(l line) (string, error) {
	program, e, at := ops.Program(l.within)
	if e != api.OK {
		return "", refusedAt(e, at)
	}
	c, e := vip.Game(program)
	if e != api.OK {
		return "", refused(e)
	}
	return sentence("game", strconv.Itoa(len(program))), d.begin(c)
}

// begin makes the machine of a configuration.
func (d *desk) begin(c api.Config) error {
	v, e := vip.New(c)
	if e != api.OK {
		return refused(e)
	}
	d.take(v)
	return nil
}

// take has another machine on the desk, of which nothing has been seen.
func (d *desk) take(v *vip.VIP) { d.machine, d.film = v, api.Film{} }

// stand has the machine stand so; what was seen of it stays.
func (d *desk) stand(b api.Board) {
	// It is a machine's state with other bytes in RAM, or some cycles on: it may be.
	kept, _ := snap.Save(b)
	d.machine, _ = vip.Load(kept)
}

// bytes are the machine's.
func (d *desk) bytes() []byte {
	// How a VIP stands may be.
	kept, _ := d.machine.Save()
	return kept
}

func (d *desk) save(l line) (string, error) {
	kept := d.bytes()
	d.kept[l.name] = kept
	return sentence("kept", strconv.Itoa(len(kept))), nil
}

func (d *desk) load(l line) (string, error) {
	kept, is := d.kept[l.name]
	if !is {
		return sentence("none"), nil
	}
	// They are a machine's bytes.
	v, _ := vip.Load(kept)
	d.take(v)
	return sentence("ok"), nil
}

func (d *desk) same(l line) (string, error) {
	// A name that was never kept has no bytes, and each machine has some.
	if !bytes.Equal(d.bytes(), d.kept[l.name]) {
		return sentence("other"), nil
	}
	return sentence("same"), nil
}
