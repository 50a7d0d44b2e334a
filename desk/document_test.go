package desk

import (
	"fmt"
	"slices"
	"strings"
	"testing"

	"vesper/api"
)

// draw is a number below n, of a fixed row of numbers.
func draw(d *uint64, n int) int {
	*d = *d*6364136223846793005 + 1442695040888963407
	return int(*d >> 33 % uint64(n))
}

// oneOf is one of these, drawn.
func oneOf[T any](d *uint64, l ...T) T { return l[draw(d, len(l))] }

// abreast does so many things beside one another.
func abreast(t *testing.T, n int, do func(t *testing.T, n int)) {
	for k := range n {
		t.Run(fmt.Sprint(k), func(t *testing.T) {
			t.Parallel()
			do(t, k)
		})
	}
}

// brief is a text's beginning and end, for telling.
func brief(text string) string {
	if len(text) <= 400 {
		return fmt.Sprintf("%q", text)
	}
	return fmt.Sprintf("%q..%q (%d bytes)", text[:250], text[len(text)-100:], len(text))
}

// lines are these as a text, each with its line feed.
func lines(l ...string) string {
	var b strings.Builder
	for _, s := range l {
		b.WriteString(s + "\n")
	}
	return b.String()
}

// tells: the text is done, and that is told.
func tells(t *testing.T, text, want string) {
	t.Helper()
	told, e, n := Run(text)
	if told != want || e != api.OK || n != 0 {
		t.Fatalf("Run of %s: %d, %d, told\n%s\nwant\n%s", brief(text), e, n, told, want)
	}
}

// told is what is told of a text that is done.
func told(t *testing.T, text string) string {
	t.Helper()
	told, e, n := Run(text)
	if e != api.OK || n != 0 {
		t.Fatalf("Run of %s: %d, %d", brief(text), e, n)
	}
	return told
}

// lastTold is what is told of a text's last line, without its echo.
func lastTold(t *testing.T, text, last string) string {
	t.Helper()
	ahead, all := told(t, text), told(t, text+last+"\n")
	behind, is := strings.CutPrefix(all, ahead+"> "+last+"\n")
	if !is {
		t.Fatalf("Run of %s and %q: %s, not what is told of the first lines and an echo", brief(text), last, brief(all))
	}
	return behind
}

// lastTells: that is told of a text's last line.
func lastTells(t *testing.T, text, last, want string) {
	t.Helper()
	if got := lastTold(t, text, last); got != want {
		t.Fatalf("of %q behind %s is told\n%s\nwant\n%s", last, brief(text), got, want)
	}
}

// refuses: the text is refused, with that error and that number.
func refuses(t *testing.T, text string, want api.Errno, line int) {
	t.Helper()
	if told, e, n := Run(text); told != "" || e != want || n != line {
		t.Fatalf("Run of %s: %s, %d, %d; want nothing, %d, %d", brief(text), brief(told), e, n, want, line)
	}
}

// pair is a text, and what it tells.
type pair struct{ text, told string }

// examples are DOC.md's examples of the whole.
func examples() []pair {
	return []pair{anObject, wrongSources, noMachine, counting, seven, aKey, aCall, aCarry, keptAndLoaded, theMonitor}
}

var anObject = pair{`source
 at 8000
 OUT 4 ; the latch is let go
 data 00
 at 0002
 LDI c8
 ADI 64
 PLO a
end:
 BR to end
end
list
bare 2048
play 11
cpu
trace 3
`, `> source
object 2 1
> list
  0002  f8 c8     LDI c8
  0004  fc 64     ADI 64
  0006  aa        PLO a
  end:
  0007  30 07     BR 07
  8000  64        OUT 4
  8001  00
> bare 2048
ok
> play 11
cycles 11
> cpu
p 0 x 0 d 2c df 1 t 00 ie 1 q 0 op 30 phase 1 0007 0000 0000 0000 0000 0000 0000 0000 0000 0000 002c 0000 0000 0000 0000 0000
> trace 3
  s1 0000 2c
  s0 0007 30 r
  s1 0008 07 r
`}

var wrongSources = pair{`source
 at 00fe
 BR to away
away:
end
source
a:
 NOP
a:
end
source
 LBR to nowhere
end
source

NOP
end
`, `> source
error 142 at 1
> source
error 140 at 2
> source
error 141 at 0
> source
error 131 at 2
`}

var noMachine = pair{`cpu
machine 2049
machine 2048
raster
memory 0000 4
poke 07fe 0102
memory 07fe 4
memory 0800 1
load none
`, `> cpu
error 241
> machine 2049
error 220
> machine 2048
ok
> raster
line 0 cycle 0 on 0 got 0
> memory 0000 4
00000000
> poke 07fe 0102
ok
> memory 07fe 4
0102
> memory 0800 1
none
> load none
none
`}

var counting = pair{`game
set v0 05
up:
add v0 01
skip-is v0 09
jump to up
stay:
jump to stay
end
play 60000
beat
memory 0200 10
`, `> game
game 10
> play 60000
cycles 60000
> beat
pc 0208 i 0000 delay 00 sound 00 depth 0 next jump 208 v 09000000000000000000000000000000
> memory 0200 10
60057001300912021208
`}

// rows are so many rows of dots, as they are told.
func rows(n int, dots string) string {
	return strings.Repeat("  "+dots+strings.Repeat(".", 64-len(dots))+"\n", n)
}

var seven = pair{`game
set v0 07
set v1 04
set v2 08
digit v0
draw v1 v2 5
stay:
jump to stay
end
play 90000
screen
`, `> game
game 12
> play 90000
cycles 90000
> screen
` + rows(8, "") + rows(1, "....####") + rows(4, ".......#") + rows(19, "")}

var aKey = pair{`game
key v3
stay:
jump to stay
end
play 60000
press 11 8000 14000
beat
`, `> game
game 4
> play 60000
cycles 60000
> press 11 8000 14000
cycles 82000
> beat
pc 0202 i 0000 delay 00 sound 00 depth 0 next jump 202 v 0000000b000000000000000000000000
`}

var aCall = pair{`game
set v5 fe
point 300
call to split
stay:
jump to stay
split:
three v5
return
end
play 60000
memory 0300 3
beat
`, `> game
game 12
> play 60000
cycles 60000
> memory 0300 3
020504
> beat
pc 0206 i 0300 delay 00 sound 00 depth 0 next jump 206 v 0000000000fe00000000000000000000
`}

var aCarry = pair{`game
set v1 05
set v2 ff
plus v2 v1
delay v1
sound v1
stay:
jump to stay
end
play 90000
beat
`, `> game
game 12
> play 90000
cycles 90000
> beat
pc 020a i 0000 delay 00 sound 00 depth 0 next jump 20a v 00050400000000000000000000000001
`}

var keptAndLoaded = pair{`machine 4096
play 500
save here
play 500
same here
load here
same here
trace 1
`, `> machine 4096
ok
> play 500
cycles 500
> save here
kept 4679
> play 500
cycles 1000
> same here
other
> load here
ok
> same here
same
> trace 1
`}

var theMonitor = pair{`machine 4096
play 3000 keys 1000
play 30000
press 0 8000 14000
press 2 8000 14000
press 3 8000 14000
press 4 8000 14000
press 0 8000 14000
press 10 8000 14000
press 11 8000 14000
memory 0234 1
`, `> machine 4096
ok
> play 3000 keys 1000
cycles 3000
> play 30000
cycles 33000
> press 0 8000 14000
cycles 55000
> press 2 8000 14000
cycles 77000
> press 3 8000 14000
cycles 99000
> press 4 8000 14000
cycles 121000
> press 0 8000 14000
cycles 143000
> press 10 8000 14000
cycles 165000
> press 11 8000 14000
cycles 187000
> memory 0234 1
ab
`}

// P24.1: DOC.md's examples of the whole, each.
func TestExamplesOfTheWhole(t *testing.T) {
	for k, p := range examples() {
		t.Run(fmt.Sprint(k+1), func(t *testing.T) {
			t.Parallel()
			tells(t, p.text, p.told)
		})
	}
}

// P24.1: and those that begin with a source, a machine or a game tell the same behind one another.
func TestExamplesBehindOneAnother(t *testing.T) {
	l := slices.Delete(examples(), 2, 3)
	abreast(t, len(l), func(t *testing.T, n int) {
		var text, want string
		for k := range l {
			p := l[(n+k)%len(l)]
			text, want = text+p.text, want+p.told
		}
		tells(t, text, want)
	})
}

// P24.1: the chapter's examples, row by row.
func TestChaptersExamples(t *testing.T) {
	tells(t, "", "")
	refuses(t, "cpu", api.ErrDeskLine, 1)
	refuses(t, "cpu \n", api.ErrDeskLine, 1)
	refuses(t, "machine 02048\n", api.ErrDeskLine, 1)
	refuses(t, "source\n NOP\n", api.ErrDeskLine, 3)
	refuses(t, "press 16 1 1\n", api.ErrDeskLine, 1)
	tells(t, "press 15 0 1\n", "> press 15 0 1\nerror 241\n")
}
