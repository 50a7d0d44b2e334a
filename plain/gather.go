package plain

import (
	"vesper/api"
	"vesper/code"
)

// mostData is how many bytes an item of data has at most.
const mostData = 256

// gathering is the items of an object, as far as it has been gone through.
type gathering struct {
	items  []api.Item
	labels []api.Label // those that have not been come to
	astray []api.Label // those that were passed where no item begins
}

// gather goes through an object that may be.
func gather(o api.Object) []api.Item {
	g := &gathering{labels: o.Labels}
	// A source begins at 0, so the labels of 0 need no ItemAt as long as nothing else has been laid.
	g.come(0)
	marks := o.Marks
blocks:
	for _, b := range o.Blocks {
		if b.At > 0 {
			g.add(atItem(b.At))
		}
		at, left := b.At, b.Bytes
		for {
			g.come(at)
			if len(left) == 0 {
				continue blocks
			}
			if at >= behind(marks[0]) {
				marks = marks[1:]
			}
			size := g.take(at, left[:behind(marks[0])-at], marks[0].Code)
			at, left = at+size, left[size:]
		}
	}
	g.addAstray()
	return g.items
}

// behind is the address behind a mark's last byte.
func behind(m api.Mark) int { return m.At + m.Bytes }

func (g *gathering) add(i api.Item) { g.items = append(g.items, i) }

// come comes to an address at which labels may stand: its own stand there, those ahead of it have no place.
func (g *gathering) come(at int) {
	for len(g.labels) > 0 && g.labels[0].At <= at {
		l := g.labels[0]
		if l.At == at {
			g.add(labelItem(l.Name))
		} else {
			g.astray = append(g.astray, l)
		}
		g.labels = g.labels[1:]
	}
}

// take gathers the item at the front of what is left of a mark, and says how many bytes it has.
func (g *gathering) take(at int, left []byte, isCode bool) int {
	if isCode {
		i, size, _ := code.Decode(left)
		g.add(codeItem(i))
		return size
	}
	size := min(len(left), mostData)
	if len(g.labels) > 0 {
		size = min(size, g.labels[0].At-at)
	}
	g.add(dataItem(left[:size]))
	return size
}

// addAstray gathers the labels that have no place among the blocks, those behind all blocks too.
func (g *gathering) addAstray() {
	at := -1
	for _, l := range append(g.astray, g.labels...) {
		if l.At != at {
			at = l.At
			g.add(atItem(at))
		}
		g.add(labelItem(l.Name))
	}
}
