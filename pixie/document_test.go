package pixie

import (
	"strings"

	"vesper/api"
)

// What is so in which lines, written out once more: a sign a line, in rows of ten; s shown, i INT if it is on, f the flag, b both of these, e shown and the flag, - nothing.
const sheet = `
---------- ---------- ---------- ---------- ---------- ---------- ----------
------ffbb
ssssssssss ssssssssss ssssssssss ssssssssss ssssssssss ssssssssss
ssssssssss ssssssssss ssssssssss ssssssssss ssssssssss ssssssssss
sssseeee--
---------- ---------- ---------- ---------- ----------
--
`

var signs = strings.Join(strings.Fields(sheet), "")

func lineIs(line int, kinds string) bool {
	return line >= 0 && line < len(signs) && strings.Contains(kinds, signs[line:line+1])
}

func twinShown(line int) bool { return lineIs(line, "se") }

// greatest is the greatest Got by the cycle of a shown line.
var greatest = []int{0, 0, 0, 1, 2, 3, 4, 5, 6, 7, 8, 8, 8, 8}

func twinMayBe(r api.Raster) bool {
	if r.Line < 0 || r.Line > 261 || r.Cycle < 0 || r.Cycle > 13 || r.Got < 0 {
		return false
	}
	if twinShown(r.Line) {
		return r.Got <= greatest[r.Cycle]
	}
	return r.Got == 0
}

func twinInterrupt(r api.Raster) bool { return twinMayBe(r) && r.On && lineIs(r.Line, "ib") }

func twinFlag(r api.Raster) bool { return twinMayBe(r) && lineIs(r.Line, "fbe") }

func twinWants(r api.Raster) bool {
	if !twinMayBe(r) || !r.On || !twinShown(r.Line) {
		return false
	}
	return r.Cycle > 1 && r.Got != 8
}

func twinTakes(r api.Raster, d api.Drive) bool {
	if d.Code != 2 || !d.Read {
		return false
	}
	return twinWants(r)
}

func twinRequest(r api.Raster, d api.Drive) bool {
	eighth := r.Got == 7 && twinTakes(r, d)
	return !eighth && twinWants(r)
}

// twinOn goes over what switches it, the weakest first: what comes later holds.
func twinOn(r api.Raster, d api.Drive, m api.Mode) bool {
	on := r.On
	if d.Port == 1 && d.Read {
		on = false
	}
	if d.Port == 1 && d.Write {
		on = true
	}
	if m == 2 || m == 3 {
		on = false
	}
	return on
}

// twinStep counts cycles from the beginning of the frame on.
func twinStep(r api.Raster, d api.Drive, m api.Mode) api.Raster {
	if !twinMayBe(r) || m > 3 {
		return api.Raster{}
	}
	at := (r.Line*14 + r.Cycle + 1) % 3668
	next := api.Raster{Line: at / 14, Cycle: at % 14, On: twinOn(r, d, m), Got: r.Got}
	if twinTakes(r, d) {
		next.Got = r.Got + 1
	}
	if at%14 == 0 {
		next.Got = 0
	}
	return next
}
