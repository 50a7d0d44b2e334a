package desk

import (
	"strconv"

	"vesper/frame"
	"vesper/sprite"
	"vesper/trace"
)

func (d *desk) trace(l line) (string, error) {
	seen := d.film.Records
	text, e := trace.Print(seen[max(0, len(seen)-l.numbers[0]):])
	return indented(text), refused(e)
}

func (d *desk) frames(line) (string, error) {
	words := []string{"frames", strconv.Itoa(len(d.film.Frames))}
	for _, f := range d.film.Frames {
		if f.Short {
			words = append(words, "short")
		} else {
			words = append(words, "whole")
		}
	}
	return sentence(words...), nil
}

func (d *desk) screen(line) (string, error) {
	if len(d.film.Frames) == 0 {
		return sentence("none"), nil
	}
	page, is := frame.Page(d.film.Frames[len(d.film.Frames)-1])
	if !is {
		return sentence("torn"), nil
	}
	text, e := sprite.Show(page)
	return indented(text), refused(e)
}

func (d *desk) beeps(line) (string, error) {
	words := []string{"beeps", strconv.Itoa(len(d.film.Beeps))}
	for _, b := range d.film.Beeps {
		words = append(words, strconv.Itoa(b.From)+"-"+strconv.Itoa(b.To))
	}
	return sentence(words...), nil
}
