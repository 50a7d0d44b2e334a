package desk

import (
	"strconv"

	"vesper/api"
	"vesper/bits"
	"vesper/board"
	"vesper/game"
	"vesper/inter"
	"vesper/ops"
	"vesper/view"
)

// mostOn is for how many cycles a machine is played on, at most, till it comes to the fetch loop.
const mostOn = 20000

func (d *desk) play(l line) (string, error) { return d.run([]api.Span{l.span}) }

func (d *desk) press(l line) (string, error) {
	key, down, up := l.numbers[0], l.numbers[1], l.numbers[2]
	return d.run([]api.Span{{Cycles: down, Keys: 1 << key}, {Cycles: up}})
}

// run plays a script on the machine.
func (d *desk) run(l []api.Span) (string, error) {
	film, e := d.machine.Play(l)
	if e != api.OK {
		return "", refused(e)
	}
	d.film = film
	return sentence("cycles", strconv.FormatUint(d.machine.State().Cycles, 10)), nil
}

func (d *desk) beat(line) (string, error) {
	stood, g, is := nextBeat(d.machine.State())
	d.stand(stood)
	if !is {
		return sentence("away"), nil
	}
	return gameLine(g), nil
}

// nextBeat is how a machine stands when it comes to the fetch loop next, and its game; false, if it does not in so many cycles.
func nextBeat(from api.Board) (api.Board, api.Game, bool) {
	// How a VIP stands may be, so the board is made.
	here, _ := board.From(from)
	ahead := here.Clone()
	var quiet api.Span
	for range mostOn {
		// To ask a machine how it stands takes the time of many cycles: it is asked just where the cycle that comes is seen to fetch from there.
		if r := ahead.Step(quiet); r.Code == api.S0 && r.Address == inter.Fetch() {
			stood := here.State()
			if g, is := view.Game(stood); is {
				return stood, g, true
			}
		}
		here.Step(quiet)
	}
	stood := here.State()
	g, is := view.Game(stood)
	return stood, g, is
}

// gameLine is what is told of a game.
func gameLine(g api.Game) string {
	o, _ := game.Next(g)
	next, e := ops.Print(o)
	if e != api.OK {
		next = "-"
	}
	return sentence(
		"pc", fourDigits(g.PC), "i", fourDigits(g.I),
		"delay", twoDigits(g.Delay), "sound", twoDigits(g.Sound),
		"depth", strconv.Itoa(len(g.Stack)),
		"next", next,
		"v", digits(g.V[:]))
}

func (d *desk) cpu(line) (string, error) {
	c := d.machine.State().CPU
	words := []string{
		"p", bits.Hex(int(c.P), 1), "x", bits.Hex(int(c.X), 1),
		"d", twoDigits(c.D), "df", flag(c.DF), "t", twoDigits(c.T),
		"ie", flag(c.IE), "q", flag(c.Q),
		"op", twoDigits(c.Op), "phase", strconv.Itoa(int(c.Phase)),
	}
	for _, r := range c.R {
		words = append(words, fourDigits(r))
	}
	return sentence(words...), nil
}

func (d *desk) raster(line) (string, error) {
	r := d.machine.State().Raster
	return sentence(
		"line", strconv.Itoa(r.Line), "cycle", strconv.Itoa(r.Cycle),
		"on", flag(r.On), "got", strconv.Itoa(r.Got)), nil
}

func (d *desk) memory(l line) (string, error) {
	ram := d.machine.State().RAM
	there := ram[min(l.address, len(ram)):min(l.address+l.numbers[0], len(ram))]
	if len(there) == 0 {
		return sentence("none"), nil
	}
	return sentence(digits(there)), nil
}

func (d *desk) poke(l line) (string, error) {
	b := d.machine.State()
	copy(b.RAM[min(l.address, len(b.RAM)):], l.bytes)
	d.stand(b)
	return sentence("ok"), nil
}
