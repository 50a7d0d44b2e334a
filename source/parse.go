package source

import (
	"strings"

	"vesper/api"
	"vesper/bits"
	"vesper/code"
)

// reader makes the item of a line out of the words behind its first one.
type reader func(behind []string) api.Item

// readers are what the items other than labels are written as, by the first word of their lines.
func readers() map[string]reader {
	table := map[string]reader{
		dataWord:    readData,
		atWord:      readAt,
		addressWord: readAddress,
	}
	for op := range 256 {
		name := code.Info(byte(op)).Name
		table[name] = func(behind []string) api.Item { return readCode(name, behind) }
	}
	return table
}

// Parse reads such a text; with an error the line.
func Parse(text string) (l []api.Item, e api.Errno, line int) {
	at := 0
	defer func() {
		if recover() != nil {
			l, e, line = nil, api.ErrSourceText, at
		}
	}()
	if len(text) > api.MaxText {
		return nil, api.ErrLong, 0
	}
	table := readers()
	for rest := text; rest != ""; {
		at++
		own, others, _ := strings.Cut(rest, "\n")
		if words := wordsOf(own); len(words) > 0 {
			l = append(l, readLine(table, own, words))
		}
		rest = others
	}
	// A line that is none is told ahead of too many items, wherever it stands.
	if len(l) > api.MaxItems {
		return nil, api.ErrLong, 0
	}
	return l, api.OK, 0
}

// wordsOf is the words ahead of a line's remark.
func wordsOf(line string) []string {
	told, _, _ := strings.Cut(line, ";")
	return strings.FieldsFunc(told, isBlank)
}

// isBlank: other white space than these two is no blank, but part of a word.
func isBlank(r rune) bool { return r == ' ' || r == '\t' }

// readLine is the item of a line that has words.
func readLine(table map[string]reader, line string, words []string) api.Item {
	var item api.Item
	if isBlank(rune(line[0])) {
		read, known := table[words[0]]
		need(known)
		item = read(words[1:])
	} else {
		item = readLabel(words)
	}
	need(mayBe(item))
	return item
}

func readLabel(words []string) api.Item {
	need(len(words) == 1)
	name, ended := strings.CutSuffix(words[0], ":")
	need(ended)
	return api.Item{Kind: api.ItemLabel, Name: apart(name)}
}

func readCode(name string, behind []string) api.Item {
	switch len(behind) {
	case 0:
		return readPlain(name)
	case 1:
		return readPlain(name + " " + behind[0])
	}
	need(len(behind) == 2)
	return api.Item{Kind: api.ItemCode, Name: name, Label: apart(behind[1]), Part: readPart(behind[0])}
}

// readPlain is an instruction without a label.
func readPlain(line string) api.Item {
	i, e := code.Parse(line)
	need(e == api.OK)
	return api.Item{Kind: api.ItemCode, Name: i.Name, Arg: i.Arg}
}

func readPart(word string) api.Part {
	for p, w := range partWords {
		if w == word {
			return api.Part(p)
		}
	}
	panic(noItem)
}

func readData(behind []string) api.Item {
	b := make([]byte, 0, len(behind))
	for _, word := range behind {
		b = append(b, byte(readNumber(word, byteDigits)))
	}
	return api.Item{Kind: api.ItemData, Bytes: b}
}

func readAt(behind []string) api.Item {
	need(len(behind) == 1)
	return api.Item{Kind: api.ItemAt, Arg: readNumber(behind[0], addressDigits)}
}

func readAddress(behind []string) api.Item {
	need(len(behind) == 1)
	return api.Item{Kind: api.ItemAddress, Label: apart(behind[0])}
}

// readNumber is what just so many digits to the base sixteen say.
func readNumber(word string, digits int) int {
	n, e := bits.Number(word)
	need(e == api.OK && len(word) == digits)
	return n
}

// apart is a word in memory of its own: a piece of the text would keep all of that.
func apart(word string) string { return strings.Clone(word) }

const noItem = "this is no item"

// need gives up a line that is none; Parse recovers, and knows which line it was.
func need(right bool) {
	if !right {
		panic(noItem)
	}
}
