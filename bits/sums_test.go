package bits

import (
	"fmt"
	"strings"
	"testing"

	"vesper/api"
)

const lastSum = api.SumLeftC

// everyPair goes through all values of d, b and DF.
func everyPair(visit func(d, b byte, df bool)) {
	for d := range 256 {
		for b := range 256 {
			visit(byte(d), byte(b), false)
			visit(byte(d), byte(b), true)
		}
	}
}

func told(d byte, df bool) string {
	if df {
		return fmt.Sprintf("%02x+", d)
	}
	return fmt.Sprintf("%02x-", d)
}

// P1.1: each sum at its edges. A line a d (00, 7f, 80, ff), in it each b (00, 7f, 80, ff) with DF off and on; + and - are DF behind it.
func TestDoAtTheEdges(t *testing.T) {
	edges := []byte{0x00, 0x7f, 0x80, 0xff}
	table := []struct {
		s    api.Sum
		want [4]string
	}{
		{api.SumLoad, [4]string{
			"00- 00+ 7f- 7f+ 80- 80+ ff- ff+",
			"00- 00+ 7f- 7f+ 80- 80+ ff- ff+",
			"00- 00+ 7f- 7f+ 80- 80+ ff- ff+",
			"00- 00+ 7f- 7f+ 80- 80+ ff- ff+",
		}},
		{api.SumOr, [4]string{
			"00- 00+ 7f- 7f+ 80- 80+ ff- ff+",
			"7f- 7f+ 7f- 7f+ ff- ff+ ff- ff+",
			"80- 80+ ff- ff+ 80- 80+ ff- ff+",
			"ff- ff+ ff- ff+ ff- ff+ ff- ff+",
		}},
		{api.SumAnd, [4]string{
			"00- 00+ 00- 00+ 00- 00+ 00- 00+",
			"00- 00+ 7f- 7f+ 00- 00+ 7f- 7f+",
			"00- 00+ 00- 00+ 80- 80+ 80- 80+",
			"00- 00+ 7f- 7f+ 80- 80+ ff- ff+",
		}},
		{api.SumXor, [4]string{
			"00- 00+ 7f- 7f+ 80- 80+ ff- ff+",
			"7f- 7f+ 00- 00+ ff- ff+ 80- 80+",
			"80- 80+ ff- ff+ 00- 00+ 7f- 7f+",
			"ff- ff+ 80- 80+ 7f- 7f+ 00- 00+",
		}},
		{api.SumAdd, [4]string{
			"00- 00- 7f- 7f- 80- 80- ff- ff-",
			"7f- 7f- fe- fe- ff- ff- 7e+ 7e+",
			"80- 80- ff- ff- 00+ 00+ 7f+ 7f+",
			"ff- ff- 7e+ 7e+ 7f+ 7f+ fe+ fe+",
		}},
		{api.SumAddC, [4]string{
			"00- 01- 7f- 80- 80- 81- ff- 00+",
			"7f- 80- fe- ff- ff- 00+ 7e+ 7f+",
			"80- 81- ff- 00+ 00+ 01+ 7f+ 80+",
			"ff- 00+ 7e+ 7f+ 7f+ 80+ fe+ ff+",
		}},
		{api.SumFrom, [4]string{
			"00+ 00+ 7f+ 7f+ 80+ 80+ ff+ ff+",
			"81- 81- 00+ 00+ 01+ 01+ 80+ 80+",
			"80- 80- ff- ff- 00+ 00+ 7f+ 7f+",
			"01- 01- 80- 80- 81- 81- 00+ 00+",
		}},
		{api.SumFromC, [4]string{
			"ff- 00+ 7e+ 7f+ 7f+ 80+ fe+ ff+",
			"80- 81- ff- 00+ 00+ 01+ 7f+ 80+",
			"7f- 80- fe- ff- ff- 00+ 7e+ 7f+",
			"00- 01- 7f- 80- 80- 81- ff- 00+",
		}},
		{api.SumLess, [4]string{
			"00+ 00+ 81- 81- 80- 80- 01- 01-",
			"7f+ 7f+ 00+ 00+ ff- ff- 80- 80-",
			"80+ 80+ 01+ 01+ 00+ 00+ 81- 81-",
			"ff+ ff+ 80+ 80+ 7f+ 7f+ 00+ 00+",
		}},
		{api.SumLessC, [4]string{
			"ff- 00+ 80- 81- 7f- 80- 00- 01-",
			"7e+ 7f+ ff- 00+ fe- ff- 7f- 80-",
			"7f+ 80+ 00+ 01+ ff- 00+ 80- 81-",
			"fe+ ff+ 7f+ 80+ 7e+ 7f+ ff- 00+",
		}},
		{api.SumRight, [4]string{
			"00- 00- 00- 00- 00- 00- 00- 00-",
			"3f+ 3f+ 3f+ 3f+ 3f+ 3f+ 3f+ 3f+",
			"40- 40- 40- 40- 40- 40- 40- 40-",
			"7f+ 7f+ 7f+ 7f+ 7f+ 7f+ 7f+ 7f+",
		}},
		{api.SumRightC, [4]string{
			"00- 80- 00- 80- 00- 80- 00- 80-",
			"3f+ bf+ 3f+ bf+ 3f+ bf+ 3f+ bf+",
			"40- c0- 40- c0- 40- c0- 40- c0-",
			"7f+ ff+ 7f+ ff+ 7f+ ff+ 7f+ ff+",
		}},
		{api.SumLeft, [4]string{
			"00- 00- 00- 00- 00- 00- 00- 00-",
			"fe- fe- fe- fe- fe- fe- fe- fe-",
			"00+ 00+ 00+ 00+ 00+ 00+ 00+ 00+",
			"fe+ fe+ fe+ fe+ fe+ fe+ fe+ fe+",
		}},
		{api.SumLeftC, [4]string{
			"00- 01- 00- 01- 00- 01- 00- 01-",
			"fe- ff- fe- ff- fe- ff- fe- ff-",
			"00+ 01+ 00+ 01+ 00+ 01+ 00+ 01+",
			"fe+ ff+ fe+ ff+ fe+ ff+ fe+ ff+",
		}},
	}
	if len(table) != int(lastSum)+1 {
		t.Fatalf("%d sums are looked at", len(table))
	}
	for _, x := range table {
		for i, d := range edges {
			var got []string
			for _, b := range edges {
				got = append(got, told(Do(x.s, d, b, false)), told(Do(x.s, d, b, true)))
			}
			if line := strings.Join(got, " "); line != x.want[i] {
				t.Errorf("sum %d of %02x:\n%s, wanted\n%s", x.s, d, line, x.want[i])
			}
		}
	}
}

// P1.1: the document's examples, with ordinary numbers.
func TestDoExamples(t *testing.T) {
	for _, x := range []struct {
		s    api.Sum
		d, b byte
		df   bool
		want string
	}{
		{api.SumLoad, 0x12, 0x34, true, "34+"},
		{api.SumOr, 0x12, 0x34, false, "36-"},
		{api.SumAnd, 0x12, 0x34, true, "10+"},
		{api.SumXor, 0x12, 0x34, false, "26-"},
		{api.SumAdd, 0xc8, 0x64, false, "2c+"},
		{api.SumAdd, 0xc8, 0x64, true, "2c+"},
		{api.SumAdd, 0x12, 0x34, true, "46-"},
		{api.SumAddC, 0xff, 0x00, true, "00+"},
		{api.SumAddC, 0x12, 0x34, true, "47-"},
		{api.SumFrom, 0x42, 0x0e, false, "cc-"},
		{api.SumFrom, 0x42, 0x0e, true, "cc-"},
		{api.SumFromC, 0x0e, 0x42, false, "33+"},
		{api.SumLess, 0x42, 0x0e, false, "34+"},
		{api.SumLess, 0x42, 0x0e, true, "34+"},
		{api.SumLessC, 0x40, 0x40, false, "ff-"},
		{api.SumLessC, 0x40, 0x40, true, "00+"},
		{api.SumRight, 0x81, 0xff, true, "40+"},
		{api.SumRight, 0x42, 0xff, true, "21-"},
		{api.SumRightC, 0x81, 0x00, true, "c0+"},
		{api.SumRightC, 0x42, 0x00, false, "21-"},
		{api.SumLeft, 0x81, 0xff, true, "02+"},
		{api.SumLeft, 0x42, 0xff, true, "84-"},
		{api.SumLeftC, 0x81, 0x00, false, "02+"},
		{api.SumLeftC, 0x42, 0x00, true, "85-"},
	} {
		if got := told(Do(x.s, x.d, x.b, x.df)); got != x.want {
			t.Errorf("Do(%d, %02x, %02x, %v) = %s, wanted %s", x.s, x.d, x.b, x.df, got, x.want)
		}
	}
}

// P1.1: all numbers, against digits of two and true sums.
func TestDoOfAllNumbers(t *testing.T) {
	everyPair(func(d, b byte, df bool) {
		for s := api.SumLoad; s <= lastSum; s++ {
			got, out := Do(s, d, b, df)
			want, flag := slowSum(s, d, b, df)
			if got != want || out != flag {
				t.Fatalf("Do(%d, %02x, %02x, %v) = %02x, %v, wanted %02x, %v", s, d, b, df, got, out, want, flag)
			}
		}
	})
}

// slowSum goes bit by bit from the lowest up, as a chain of adders does: a subtraction adds the other byte's opposite bits and a 1.
func slowSum(s api.Sum, d, b byte, df bool) (byte, bool) {
	switch s {
	case api.SumAdd:
		return chain(d, b, false)
	case api.SumAddC:
		return chain(d, b, df)
	case api.SumFrom:
		return chain(b, ^d, true)
	case api.SumFromC:
		return chain(b, ^d, df)
	case api.SumLess:
		return chain(d, ^b, true)
	case api.SumLessC:
		return chain(d, ^b, df)
	case api.SumRight:
		return d / 2, d%2 == 1
	case api.SumRightC:
		return d/2 + 128*one(df), d%2 == 1
	case api.SumLeft:
		return chain(d, d, false)
	case api.SumLeftC:
		return chain(d, d, df)
	}
	return bitwise(s, d, b), df
}

func one(on bool) byte {
	if on {
		return 1
	}
	return 0
}

func chain(a, b byte, carry bool) (byte, bool) {
	var sum byte
	for k := range 8 {
		n := a>>k&1 + b>>k&1 + one(carry)
		sum += n % 2 << k
		carry = n > 1
	}
	return sum, carry
}

func bitwise(s api.Sum, d, b byte) byte {
	var out byte
	for k := range 8 {
		x, y := d>>k&1 == 1, b>>k&1 == 1
		on := y
		switch s {
		case api.SumOr:
			on = x || y
		case api.SumAnd:
			on = x && y
		case api.SumXor:
			on = x != y
		}
		out += one(on) << k
	}
	return out
}

// P1.1: of any other sum 0 and false.
func TestDoOfNoSum(t *testing.T) {
	for s := int(lastSum) + 1; s < 256; s++ {
		for _, d := range []byte{0x00, 0x7f, 0x80, 0xff} {
			for _, df := range []bool{false, true} {
				if got, out := Do(api.Sum(s), d, ^d, df); got != 0 || out {
					t.Fatalf("Do(%d, %02x, %02x, %v) = %02x, %v", s, d, ^d, df, got, out)
				}
			}
		}
	}
}

// P1.6: sums that are others with d and b changed about, or with DF on or off.
func TestSumsOfOneAnother(t *testing.T) {
	everyPair(func(d, b byte, df bool) {
		for _, x := range []struct {
			what      string
			got, want string
		}{
			{"SumFromC, SumLessC", told(Do(api.SumFromC, d, b, df)), told(Do(api.SumLessC, b, d, df))},
			{"SumFrom, SumLess", told(Do(api.SumFrom, d, b, df)), told(Do(api.SumLess, b, d, df))},
			{"SumFromC, SumFrom", told(Do(api.SumFromC, d, b, true)), told(Do(api.SumFrom, d, b, df))},
			{"SumAddC, SumAdd", told(Do(api.SumAddC, d, b, false)), told(Do(api.SumAdd, d, b, df))},
		} {
			if x.got != x.want {
				t.Fatalf("%s of %02x, %02x, %v: %s, %s", x.what, d, b, df, x.got, x.want)
			}
		}
	})
}

// P1.6: words are added and subtracted by their bytes.
func TestWordsAreSummedByBytes(t *testing.T) {
	var words []uint16
	for w := 0; w < 65536; w += 251 {
		words = append(words, uint16(w))
	}
	words = append(words, 0x0001, 0x007f, 0x0080, 0x00ff, 0x0100, 0x7fff, 0x8000, 0xff00, 0xfffe, 0xffff)
	for _, v := range words {
		for _, w := range words {
			if got, carry := byBytes(api.SumAdd, api.SumAddC, v, w); got != v+w || carry != (int(v)+int(w) > 65535) {
				t.Fatalf("%04x + %04x = %04x, %v", v, w, got, carry)
			}
			if got, df := byBytes(api.SumLess, api.SumLessC, v, w); got != v-w || df != (v >= w) {
				t.Fatalf("%04x - %04x = %04x, %v", v, w, got, df)
			}
		}
	}
}

func byBytes(low, high api.Sum, v, w uint16) (uint16, bool) {
	l, df := Do(low, Low(v), Low(w), true)
	h, df := Do(high, High(v), High(w), df)
	return Word(h, l), df
}

// P1.6: nine shifts through DF are none; fewer are some.
func TestNineShiftsAreNone(t *testing.T) {
	for _, s := range []api.Sum{api.SumRightC, api.SumLeftC} {
		for d := range 256 {
			for _, df := range []bool{false, true} {
				got, out := byte(d), df
				for range 9 {
					got, out = Do(s, got, 0xa5, out)
				}
				if got != byte(d) || out != df {
					t.Fatalf("sum %d nine times of %02x, %v: %02x, %v", s, d, df, got, out)
				}
			}
		}
		got, out := byte(0x01), false
		for n := range 8 {
			if got, out = Do(s, got, 0, out); got == 0x01 && !out {
				t.Fatalf("sum %d of 01 is back after %d", s, n+1)
			}
		}
	}
}
