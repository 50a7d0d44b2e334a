package sprite

import (
	"strings"

	"vesper/api"
)

// A page's text: a sign a dot, a line a row.
const (
	light   = '#'
	dark    = '.'
	lineEnd = '\n'

	lineSize = across + 1
	textSize = down * lineSize
)

// Show is a page as text.
func Show(page []byte) (string, api.Errno) {
	if len(page) != api.PageSize {
		return "", api.ErrArg
	}
	var text strings.Builder
	eachPlace(across, down, func(i, j int) {
		if at, mask := dot(i, j); page[at]&mask != 0 {
			text.WriteByte(light)
		} else {
			text.WriteByte(dark)
		}
		if i == across-1 {
			text.WriteByte(lineEnd)
		}
	})
	return text.String(), api.OK
}

// Read reads such a text.
func Read(text string) ([]byte, api.Errno) {
	if len(text) != textSize {
		return nil, api.ErrArg
	}
	page := make([]byte, api.PageSize)
	eachPlace(across, down, func(i, j int) {
		if text[j*lineSize+i] == light {
			at, mask := dot(i, j)
			page[at] |= mask
		}
	})
	// No other page has these dots: if the text is not this one's, it is none's.
	if shown, _ := Show(page); shown != text {
		return nil, api.ErrArg
	}
	return page, api.OK
}
