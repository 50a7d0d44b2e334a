package source

import (
	"strings"

	"vesper/api"
	"vesper/bits"
	"vesper/code"
)

// The first words of the lines that are neither a label's nor an instruction's.
const (
	dataWord    = "data"
	atWord      = "at"
	addressWord = "address"
)

// How many digits numbers have.
const (
	byteDigits    = 2
	addressDigits = 4
)

// partWords: each part's word at its own number; where there is no label there is none.
var partWords = [...]string{api.PartAll: "to", api.PartHigh: "high", api.PartLow: "low"}

// Print is a source as text, a line an item.
func Print(l []api.Item) (string, api.Errno) {
	if e, _ := Check(l); e != api.OK {
		return "", e
	}
	var text strings.Builder
	for _, i := range l {
		text.WriteString(lineOf(i))
		if text.Len() > api.MaxText {
			return "", api.ErrLong
		}
	}
	return text.String(), api.OK
}

// lineOf is the line of an item that may be.
func lineOf(i api.Item) string {
	switch i.Kind {
	case api.ItemCode:
		return " " + codeText(i) + "\n"
	case api.ItemData:
		return " " + dataText(i.Bytes) + "\n"
	case api.ItemAt:
		return " " + atWord + " " + bits.Hex(i.Arg, addressDigits) + "\n"
	case api.ItemAddress:
		return " " + addressWord + " " + i.Label + "\n"
	}
	return i.Name + ":\n"
}

func codeText(i api.Item) string {
	if i.Part == api.PartNone {
		text, _ := code.Print(api.Instr{Name: i.Name, Arg: i.Arg})
		return text
	}
	return i.Name + " " + partWords[i.Part] + " " + i.Label
}

func dataText(b []byte) string {
	words := []string{dataWord}
	for _, v := range b {
		words = append(words, bits.Hex(int(v), byteDigits))
	}
	return strings.Join(words, " ")
}
