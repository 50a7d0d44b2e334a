package desk

import (
	"fmt"
	"slices"
	"strings"
	"testing"
	"time"

	"vesper/api"
)

// goodLines are lines of each form; those of source and game have their end.
func goodLines() []string {
	return []string{
		"source\nend", "list", "machine 4096", "bare 2048", "game\nend",
		"play 3", "play 3 keys 0012", "play 3 tape flag in out int clear wait", "play 3 keys 8000 tape flag in out int clear wait bus 01",
		"press 11 2 1", "cpu", "raster", "memory 00ff 12", "poke 0a0b 12ef", "trace 3", "frames", "screen", "beeps", "beat",
		"save one-1", "load one-1", "same one-1",
	}
}

// mayStand: the line is taken just if it may, by the chapter's words, wherever it stands; and its number is told.
func mayStand(t *testing.T, line string, may bool) {
	t.Helper()
	for _, ahead := range []string{"", "# a\n\n", "list\nsource\nx\nend\n"} {
		text := ahead + line + "\n"
		if may {
			asTwin(t, text)
			told(t, text)
			continue
		}
		refuses(t, text, api.ErrDeskLine, strings.Count(ahead, "\n")+1)
	}
}

// P24.1: each line of the table in a form that may be, and beside it with a word less, a word more, two blanks, a blank at either end, and other signs in the place of a blank.
func TestWordsOfLines(t *testing.T) {
	for _, whole := range goodLines() {
		line, end, _ := strings.Cut(whole, "\n")
		try := func(changed string) {
			t.Helper()
			if changed == "" || changed[0] == '#' {
				tells(t, changed+"\n", "")
			} else if !mayBe(changed) {
				mayStand(t, changed, false)
			} else if end == "" {
				mayStand(t, changed, true)
			} else {
				mayStand(t, changed+"\n"+end, true)
			}
		}
		try(line)
		words := strings.Split(line, " ")
		for k := range words {
			try(strings.Join(slices.Delete(slices.Clone(words), k, k+1), " "))
			for _, more := range []string{"", "0", "1", "7", "0000", "00", "a", "cpu", "end", "keys", "wait", "#", "\t", "\x00"} {
				try(strings.Join(slices.Insert(slices.Clone(words), k, more), " "))
				try(strings.Join(append(slices.Clone(words), more), " "))
			}
			for _, other := range []string{"\t", "  ", "", "\r", "\v", "\u00a0", "_"} {
				try(strings.Join(words[:k], " ") + other + strings.Join(words[k:], " "))
			}
			try(strings.Join(append(slices.Clone(words[:k]), strings.ToUpper(words[k])), " "))
		}
		for _, sign := range []string{" ", "\t", "\r", "\x00", "#", ";", ":", "."} {
			try(sign + line)
			try(line + sign)
		}
		for k := range len(line) {
			try(line[:k] + line[k+1:])
			try(line[:k] + "0" + line[k:])
			try(line[:k] + "\xff" + line[k+1:])
		}
	}
}

// P24.1: what is none of the table's words.
func TestWordsThatAreNone(t *testing.T) {
	for _, line := range []string{"sing", "end", "END", "end 1", "Source", "sources", "sourc", "machines 2048", "bar 2048", "playing 1", "cpus", "step", "o", " ", "\t", "\x00", "\xff", "è", " #", " # a", "> cpu", "ok"} {
		mayStand(t, line, false)
	}
}

// numberWords are words that are numbers of lines, and others that are none.
func numberWords() (good, bad []string) {
	good = []string{"0", "1", "9", "10", "2048", "999999", "1000000", "9999999"}
	bad = []string{"", "00", "01", "0000000", "0123456", "02048", "10000000", "12345678", "99999999", "00000001", "9223372036854775808", "+1", "-1", "-0", "+0", "1.0", "1e3", "0x1", "0b1", "0o7", "1_0", "1,0", "a", "f", "1a", "a1", "１", "٣", "1\t", "½"}
	return good, bad
}

// P24.1: NUMBER is decimal, without a nought ahead, without a sign, of at most 7 digits.
func TestNumbers(t *testing.T) {
	good, bad := numberWords()
	for _, form := range []string{"machine %s", "bare %s", "trace %s", "press 0 %s 1", "press 15 1 %s"} {
		for _, w := range good {
			mayStand(t, fmt.Sprintf(form, w), true)
		}
		for _, w := range bad {
			mayStand(t, fmt.Sprintf(form, w), false)
		}
	}
	for _, form := range []string{"press %s 1 1", "memory 0000 %s"} {
		for _, w := range bad {
			mayStand(t, fmt.Sprintf(form, w), false)
		}
	}
}

// P24.1: a key is 0 to 15; of memory 1 to 256 bytes are told.
func TestKeysAndSizes(t *testing.T) {
	for n := range 300 {
		mayStand(t, fmt.Sprint("press ", n, " 1 1"), n <= 15)
		mayStand(t, fmt.Sprint("memory 0000 ", n), n >= 1 && n <= 256)
	}
	for _, n := range []int{1000, 4096, 65536, 65552, 1048576, 9999999} {
		mayStand(t, fmt.Sprint("press ", n, " 1 1"), false)
		mayStand(t, fmt.Sprint("memory 0000 ", n), false)
	}
}

// P24.1: ADDRESS is four digits to the base sixteen.
func TestAddresses(t *testing.T) {
	for _, form := range []string{"memory %s 1", "poke %s 00"} {
		for _, w := range []string{"0000", "0009", "000a", "00ff", "7fff", "8000", "ffff", "1234", "abcd"} {
			mayStand(t, fmt.Sprintf(form, w), true)
		}
		for _, w := range []string{"", "0", "00", "000", "fff", "00000", "0ffff", "10000", "00000000", "00FF", "ABCD", "00fg", "g000", "+000", "-001", "0x00", "00 0", "00\t0", "٣", "é00", "éé"} {
			mayStand(t, fmt.Sprintf(form, w), false)
		}
	}
}

// P24.1: BYTES is an even number of such digits, 2 to 512.
func TestBytesOfLines(t *testing.T) {
	for n := range 520 {
		mayStand(t, "poke 0000 "+strings.Repeat("9a", n)[:n], n%2 == 0 && n >= 2 && n <= 512)
	}
	for _, w := range []string{"", "0", "000", "FF", "fF", "0g", "g0", "0x", "+1", "-1", "00,00", "00 00", "0\t", "é", "٣", "\x00\x00"} {
		mayStand(t, "poke 0000 "+w, false)
		mayStand(t, "poke 0000 00"+w, w == "")
		mayStand(t, "poke 0000 "+strings.Repeat("00", 256)+w, w == "")
	}
}

// P24.1: NAME is a label's name.
func TestNames(t *testing.T) {
	for _, word := range []string{"save", "load", "same"} {
		for _, w := range []string{"a", "z", "a0", "a9", "a-", "a--1", "end", "save", "abcdefghijklmnop", "a-23456789012345"} {
			mayStand(t, word+" "+w, true)
		}
		for _, w := range []string{"", "A", "0", "9a", "-", "-a", "aB", "a_b", "a.b", "a:", "a;", "é", "aé", "a\t", "a\x00", "abcdefghijklmnopq", "a b", "a  b", " a", "a "} {
			mayStand(t, word+" "+w, false)
		}
		for b := range 256 {
			if b == '\n' {
				continue
			}
			mayStand(t, word+" "+string([]byte{byte(b)}), b >= 'a' && b <= 'z')
			mayStand(t, word+" a"+string([]byte{byte(b)}), b >= 'a' && b <= 'z' || b >= '0' && b <= '9' || b == '-')
		}
	}
}

// P24.1: SPAN is a span's line: of 1 to 1048576 cycles, its words in their order, each just if it is there.
func TestSpans(t *testing.T) {
	for _, s := range []string{"1", "1048576", "5 keys ffff", "5 keys 0001 tape", "5 tape flag", "5 in int", "5 clear", "5 wait", "5 clear wait", "5 bus ff", "5 bus 01"} {
		mayStand(t, "play "+s, true)
	}
	for _, s := range []string{"", "0", "01", "1048577", "9999999", "10000000", "-1", "+1", " 5", "5 ", "5  tape", "5 keys", "5 keys 0000", "5 keys 001", "5 keys 00001", "5 keys 00FF", "5 keys 8000 keys 8000", "5 tape tape", "5 tape keys 0001", "5 flag tape", "5 wait clear", "5 bus", "5 bus 00", "5 bus 1", "5 bus 001", "5 bus FF", "5 bus 01 tape", "5 Tape", "5 tapes", "5 5", "tape", "5\ttape", "5 #"} {
		mayStand(t, "play "+s, false)
	}
	d := uint64(24)
	words := []string{"keys 0001", "tape", "flag", "in", "out", "int", "clear", "wait", "bus 0f"}
	for range 300 {
		text := "play 2"
		for range draw(&d, 5) {
			text += " " + oneOf(&d, words...)
		}
		mayStand(t, text, mayBe(text))
	}
}

// P24.1: a line without a byte, and one that begins with #, are passed over, whatever follows, and tell nothing; they count.
func TestPassedOver(t *testing.T) {
	for _, line := range []string{"", "#", "##", "# a", "#cpu", "# ", "#\x00\xff", "#end", "#source"} {
		tells(t, line+"\n", "")
		tells(t, line+"\nlist\n"+line+"\n"+line+"\ntrace 0\n"+line+"\n", "> list\n> trace 0\n")
		refuses(t, line+"\n"+line+"\nsing\n", api.ErrDeskLine, 3)
		refuses(t, line+"\n"+line+"#", api.ErrDeskLine, 2)
	}
}

// P24.1: the first of several lines that may not be is told, not the last one.
func TestFirstLineThatMayNotBe(t *testing.T) {
	for n := range 12 {
		text := strings.Repeat("list\n", n) + "sing\nlist\ncpu 1\nend\nmachine\nsource\n"
		refuses(t, text, api.ErrDeskLine, n+1)
		refuses(t, text+"list", api.ErrDeskLine, n+1)
		refuses(t, text+strings.Repeat("\n", 1000), api.ErrDeskLine, n+1)
	}
}

// P24.1: a text has 65536 bytes at most; one of more is ErrLong, whatever is in it.
func TestLength(t *testing.T) {
	for _, size := range []int{65535, 65536, 65537, 65538, 131072, 1 << 20} {
		check := func(text string) {
			t.Helper()
			if len(text) != size {
				t.Fatalf("%d bytes for %d", len(text), size)
			}
			asTwin(t, text)
			if size > 65536 {
				refuses(t, text, api.ErrLong, 0)
			}
		}
		remark := "#" + strings.Repeat("x", size-2) + "\n"
		check(remark)
		check(strings.Repeat("x", size))
		check("sing\n" + remark[5:])
		check(strings.Repeat("\n", size))
		check("#" + strings.Repeat("x", size-6) + "\nlist")
		check(remark[:size-5] + "\ncpu\n")
		check("source\n" + strings.Repeat(";", size-12) + "\nend\n")
		check("source\n" + strings.Repeat(";", size-8) + "\n")
	}
	tells(t, "list\n#"+strings.Repeat("x", 65536-13)+"\nlist\n", "> list\n> list\n")
}

// P24.1: a text has 1000 lines at most: the 1001st one may not be, whatever it is.
func TestThousandLines(t *testing.T) {
	for _, line := range []string{"", "#", "list", "cpu", "trace 0", "raster"} {
		for _, n := range []int{1, 2, 999, 1000} {
			text := strings.Repeat(line+"\n", n)
			asTwin(t, text)
			told(t, text)
			refuses(t, text+"sing\n", api.ErrDeskLine, n+1)
			refuses(t, text+"list", api.ErrDeskLine, n+1)
			refuses(t, text+"source\n", api.ErrDeskLine, min(n+2, 1001))
		}
		for _, n := range []int{1001, 1002, 2000} {
			refuses(t, strings.Repeat(line+"\n", n), api.ErrDeskLine, 1001)
			refuses(t, strings.Repeat(line+"\n", n)+"sing", api.ErrDeskLine, 1001)
		}
		refuses(t, strings.Repeat(line+"\n", 999)+"sing\n"+strings.Repeat(line+"\n", 9), api.ErrDeskLine, 1000)
	}
	if got := strings.Count(told(t, strings.Repeat("list\n", 1000)), "> list\n"); got != 1000 {
		t.Fatal(got)
	}
}

// P24.1: the lines within source and game count, too.
func TestThousandLinesWithin(t *testing.T) {
	for _, word := range []string{"source", "game"} {
		for _, n := range []int{997, 998, 999, 1000, 1001} {
			text := word + "\n" + strings.Repeat("\n", n) + "end\n"
			asTwin(t, text)
			if n <= 998 {
				told(t, text)
			} else {
				refuses(t, text, api.ErrDeskLine, 1001)
			}
			refuses(t, word+"\n"+strings.Repeat("\n", n), api.ErrDeskLine, min(n+2, 1001))
		}
		text := strings.Repeat("\n", 500) + word + "\n" + strings.Repeat("x\n", 497) + "end\n"
		told(t, text+"list\n")
		refuses(t, text+"list\nlist\n", api.ErrDeskLine, 1001)
	}
}

// P24.1: a line without a line feed may not be, not even one that is passed over, or that stands within source and game.
func TestLineFeed(t *testing.T) {
	for _, line := range append(goodLines(), "#", "# a", "sing", " ", "\r", "\x00") {
		text := line + "\n"
		refuses(t, line, api.ErrDeskLine, strings.Count(text, "\n"))
		refuses(t, "list\n"+line, api.ErrDeskLine, strings.Count(text, "\n")+1)
		refuses(t, line+"\r", api.ErrDeskLine, strings.Count(text, "\n"))
		if mayBe(strings.Split(line, "\n")[0]) {
			refuses(t, text+line, api.ErrDeskLine, 2*strings.Count(text, "\n"))
		}
	}
	for _, word := range []string{"source", "game"} {
		refuses(t, word+"\nend", api.ErrDeskLine, 2)
		refuses(t, word+"\n;", api.ErrDeskLine, 2)
		refuses(t, word+"\n\n; a", api.ErrDeskLine, 3)
	}
}

// P24.1: of a source or game that has no end the number of lines and one is told; just the line end is one.
func TestNoEnd(t *testing.T) {
	for _, word := range []string{"source", "game"} {
		refuses(t, word+"\n", api.ErrDeskLine, 2)
		refuses(t, "list\n"+word+"\n", api.ErrDeskLine, 3)
		for _, line := range []string{"", "#", "sing", "cpu", " end", "end ", "END", "end\r", "end:", "#end", "ending", "\tend", "end 1", "source", "game"} {
			refuses(t, word+"\n"+line+"\n", api.ErrDeskLine, 3)
			refuses(t, word+"\n"+line+"\n"+line+"\nlist\n", api.ErrDeskLine, 5)
			asTwin(t, word+"\n"+line+"\nend\nlist\n")
			told(t, word+"\n"+line+"\nend\nlist\n")
		}
		refuses(t, word+"\nend\n"+word+"\n\n", api.ErrDeskLine, 5)
		refuses(t, word+"\nend\nend\n", api.ErrDeskLine, 3)
		refuses(t, word+"\n"+word+"\nend\nend\n", api.ErrDeskLine, 4)
		refuses(t, word+"\nend\nsing\n"+word+"\n", api.ErrDeskLine, 3)
	}
	refuses(t, "end\n", api.ErrDeskLine, 1)
	refuses(t, "list\nend\n", api.ErrDeskLine, 2)
}

// P24.1: the lines within source and game may be anything: what is wrong with them is told, and nothing is refused.
func TestAnythingWithin(t *testing.T) {
	t.Parallel()
	d := uint64(2401)
	for range 300 {
		var text string
		for range 1 + draw(&d, 3) {
			text += oneOf(&d, "source\n", "game\n")
			for range draw(&d, 5) {
				text += oneOf(&d, append(goodLines()[1:4], "sing", "machine 02048", "# a", "", "\x00\xff", " NOP", "a:", " BR to a", "clear", "b: ", "jump to b", " end", "END")...) + "\n"
			}
			text += "end\n"
		}
		asTwin(t, text)
		told(t, text)
	}
}

// P24.1: nothing is done where a later line may not be: what would take hours is refused at once.
func TestNothingDone(t *testing.T) {
	begun := time.Now()
	long := "machine 32768\n" + strings.Repeat("play 1048576\nsave a\nload a\n", 330)
	refuses(t, long+"sing\n", api.ErrDeskLine, 992)
	refuses(t, long+"play 1", api.ErrDeskLine, 992)
	refuses(t, long+"source\n", api.ErrDeskLine, 993)
	refuses(t, long+strings.Repeat("\n", 10), api.ErrDeskLine, 1001)
	refuses(t, long+"#"+strings.Repeat("x", 65536), api.ErrLong, 0)
	if took := time.Since(begun); took > 10*time.Second {
		t.Fatal("it took ", took)
	}
}

// P24.1: of source and game this word alone is told ahead of what they tell, of other lines all of it.
func TestEcho(t *testing.T) {
	for _, whole := range goodLines() {
		line, _, _ := strings.Cut(whole, "\n")
		got := told(t, whole+"\n")
		if behind, is := strings.CutPrefix(got, "> "+line+"\n"); !is || strings.Contains(behind, ">") {
			t.Fatalf("%q: %q", whole, got)
		}
	}
	tells(t, "source\n NOP\nend\ngame\nclear\nend\n", "> source\nobject 1 0\n> game\ngame 2\n")
}
