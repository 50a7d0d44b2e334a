package plain

import (
	"slices"
	"strings"

	"vesper/api"
	"vesper/bits"
	"vesper/code"
)

// How a line is laid out.
const (
	addressDigits = 4
	byteDigits    = 2
	rowBytes      = 8
	codeColumns   = 8 // the bytes of an instruction, and the blanks behind them
	gap           = "  "
)

// teller is a function that says the lines of an item. It is handed a listing's items one after the other, and goes on with the address.
func teller() func(api.Item) string {
	at := 0
	return func(i api.Item) string {
		switch i.Kind {
		case api.ItemAt:
			at = i.Arg
		case api.ItemLabel:
			return i.Name + ":\n"
		case api.ItemCode:
			instr := api.Instr{Name: i.Name, Arg: i.Arg}
			b, _ := code.Encode(instr)
			line := codeLine(at, b, instr)
			at += len(b)
			return line
		case api.ItemData:
			lines := ""
			for row := range slices.Chunk(i.Bytes, rowBytes) {
				lines += dataLine(at, row)
				at += len(row)
			}
			return lines
		}
		return ""
	}
}

func codeLine(at int, b []byte, i api.Instr) string {
	digits := digitsOf(b)
	blanks := strings.Repeat(" ", codeColumns-len(digits))
	text, _ := code.Print(i)
	return addressOf(at) + digits + blanks + gap + text + "\n"
}

func dataLine(at int, row []byte) string {
	return addressOf(at) + digitsOf(row) + "\n"
}

// addressOf is what a line with bytes begins with.
func addressOf(at int) string { return bits.Hex(at, addressDigits) + gap }

// digitsOf is bytes, a blank between two.
func digitsOf(b []byte) string {
	var words []string
	for _, v := range b {
		words = append(words, bits.Hex(int(v), byteDigits))
	}
	return strings.Join(words, " ")
}
