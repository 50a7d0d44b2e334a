package frame

import (
	"strings"

	"vesper/api"
)

// A frame's text: a sign a dot, a line a row.
const (
	light   = '#'
	dark    = '.'
	lineEnd = "\n"

	signsOfByte = 8

	highestBit byte = 0x80
)

// Show is a frame as text.
func Show(f api.Frame) (string, api.Errno) {
	if !frameMayBe(f) {
		return "", api.ErrArg
	}
	var text strings.Builder
	for _, row := range f.Rows {
		for _, b := range row {
			showByte(&text, b)
		}
		text.WriteString(lineEnd)
	}
	return text.String(), api.OK
}

// Read reads such a text.
func Read(text string) (api.Frame, api.Errno) {
	rows := make([][]byte, shownLines)
	for k := range rows {
		line, rest, ended := strings.Cut(text, lineEnd)
		row, ok := readRow(line)
		if !ended || !ok {
			return api.Frame{}, api.ErrFrameText
		}
		rows[k], text = row, rest
	}
	if text != "" {
		return api.Frame{}, api.ErrFrameText
	}
	return api.Frame{Rows: rows, Short: isShort(rows)}, api.OK
}

func showByte(text *strings.Builder, b byte) {
	for k := range signsOfByte {
		if b&(highestBit>>k) != 0 {
			text.WriteByte(light)
		} else {
			text.WriteByte(dark)
		}
	}
}

// readRow are the bytes of a line; false, if it is none that is shown of a row.
func readRow(line string) ([]byte, bool) {
	if len(line) > signsOfByte*api.RowBytes || len(line)%signsOfByte != 0 {
		return nil, false
	}
	row := make([]byte, len(line)/signsOfByte)
	for k := range len(line) {
		switch line[k] {
		case light:
			row[k/signsOfByte] |= highestBit >> (k % signsOfByte)
		case dark:
		default:
			return nil, false
		}
	}
	return row, true
}
