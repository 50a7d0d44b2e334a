package sprite

import (
	"bytes"
	"testing"

	"vesper/api"
)

// P17.1: which pages may be, with few rows and with too many.
func TestPagesThatMayNotBe(t *testing.T) {
	for _, n := range []int{0, 1, 8, 128, 255, 257, 264, 512, 1024, 1 << 20} {
		for _, rows := range []int{0, 1, 15, 16, 1 << 20} {
			wantNoDraw(t, make([]byte, n), 3, 4, bytes.Repeat([]byte{0xff}, rows))
		}
	}
	wantNoDraw(t, nil, 0, 0, nil)
	wantNoDraw(t, []byte{}, 0, 0, []byte{0x80})
	wantNoDraw(t, make([]byte, 255, 256), 0, 0, []byte{0x80})
	wantNoDraw(t, make([]byte, 512)[:0], 0, 0, []byte{0x80})
}

// P17.1: how many rows may be; too many are refused also where all of them are off, or below the page.
func TestHowManyRows(t *testing.T) {
	for _, page := range mixed() {
		for n := range 40 {
			for _, b := range []byte{0, 0x80, 0xff} {
				for _, y := range []byte{0, 17, 31} {
					rows := bytes.Repeat([]byte{b}, n)
					if n > 15 {
						wantNoDraw(t, page, 0, y, rows)
					} else {
						wantTwin(t, page, 0, y, rows)
					}
				}
			}
		}
		wantNoDraw(t, page, 0, 0, make([]byte, 256))
		wantNoDraw(t, page, 0, 0, make([]byte, 1<<20))
		wantTwin(t, page, 0, 0, bytes.Repeat([]byte{0x99}, 40)[:15])
	}
}

// P17.1, R3: no rows, nil or empty, anywhere: the page, and nothing went out.
func TestNoRows(t *testing.T) {
	for _, page := range mixed() {
		for x := range 256 {
			wantDraw(t, page, byte(x), byte(255-x), nil, page, false)
			wantDraw(t, page, byte(x), byte(x), []byte{}, page, false)
		}
	}
}

// P17.1: rows that are off change nothing, and nothing goes out.
func TestRowsThatAreOff(t *testing.T) {
	for _, page := range mixed() {
		for n := range 16 {
			wantDraw(t, page, byte(17*n), byte(13*n), make([]byte, n), page, false)
		}
	}
}

// P17.1: one dot at every x and y is just the dot at those places modulo 64 and 32.
func TestOneDotEverywhere(t *testing.T) {
	page := make([]byte, 256)
	for x := range 256 {
		for y := range 256 {
			at, bit := y%32*8+x%64/8, byte(128)
			for range x % 8 {
				bit /= 2
			}
			page[at] = bit
			wantDraw(t, filled(0), byte(x), byte(y), []byte{0x80}, page, false)
			wantDraw(t, page, byte(x), byte(y), []byte{0x80}, filled(0), true)
			page[at] = 0
		}
	}
}

// P17.1: each of a row's eight dots, alone, at every x and y.
func TestEachDotEverywhere(t *testing.T) {
	pages := mixed()
	for x := range 256 {
		for y := range 256 {
			for bit := range 8 {
				wantTwin(t, pages[(x+y+bit)%3], byte(x), byte(y), []byte{1 << bit})
			}
		}
	}
}

// P17.1: a whole row, two and all fifteen at every x and y, on pages all off, all on and mixed.
func TestWholeRowsEverywhere(t *testing.T) {
	whole := bytes.Repeat([]byte{0xff}, 15)
	for _, page := range mixed()[:3] {
		for x := range 256 {
			for y := range 256 {
				wantTwin(t, page, byte(x), byte(y), whole[:1])
				wantTwin(t, page, byte(x), byte(y), whole[:2])
				wantTwin(t, page, byte(x), byte(y), whole)
			}
		}
	}
}

// P17.1: at the right edge a row is cut off: so many of its dots are left, in the last byte, and none comes in at the left.
func TestRightEdge(t *testing.T) {
	for k, want := range []byte{0xff, 0x7f, 0x3f, 0x1f, 0x0f, 0x07, 0x03, 0x01} {
		for _, y := range []int{0, 1, 30, 31} {
			for _, more := range []int{0, 64, 128, 192} {
				wantDraw(t, filled(0), byte(56+k+more), byte(y), []byte{0xff}, with(map[int]byte{8*y + 7: want}), false)
			}
		}
	}
}

// P17.1: at the lower edge rows are left out, and none comes in at the top.
func TestLowerEdge(t *testing.T) {
	rows := []byte{1, 2, 3, 4, 5, 6, 7, 8, 9, 10, 11, 12, 13, 14, 15}
	for y := range 32 {
		m := map[int]byte{}
		for k, b := range rows {
			if y+k < 32 {
				m[8*(y+k)+3] = b
			}
		}
		for more := 0; more < 256; more += 32 {
			wantDraw(t, filled(0), 24, byte(y+more), rows, with(m), false)
		}
	}
}

// P17.1: one dot alone on the page, at each place, goes out; all other dots on and this one off: none does.
func TestOneAloneGoesOut(t *testing.T) {
	for n := range 2048 {
		x, y := byte(n%64), byte(n/64)
		alone, but := filled(0), filled(0xff)
		alone[n/8] = 0x80 >> (n % 8)
		but[n/8] ^= 0x80 >> (n % 8)
		wantDraw(t, alone, x, y, []byte{0x80}, filled(0), true)
		wantDraw(t, but, x, y, []byte{0x80}, filled(0xff), false)
		wantDraw(t, filled(0), x, y, []byte{0x80}, alone, false)
		wantDraw(t, filled(0xff), x, y, []byte{0x80}, but, true)
	}
}

// P17.1: of many rows one dot alone goes out: each of their dots in turn, the first and the last among them.
func TestOneOfManyGoesOut(t *testing.T) {
	rows := bytes.Repeat([]byte{0xff}, 15)
	for _, x := range []byte{0, 3, 8, 37, 56} {
		for _, y := range []byte{0, 9, 17} {
			laid, _ := twinDraw(filled(0), x, y, rows)
			for k := range 15 * 8 {
				i, j := int(x)+k%8, int(y)+k/8
				page, want := filled(0), bytes.Clone(laid)
				page[8*j+i/8] = 0x80 >> (i % 8)
				want[8*j+i/8] ^= 0x80 >> (i % 8)
				wantDraw(t, page, x, y, rows, want, true)
			}
		}
	}
}

// P17.1: dots that are left out are never counted as gone out: all is on but the places that the rows have.
func TestLeftOutNeverGoesOut(t *testing.T) {
	rows := bytes.Repeat([]byte{0xff}, 15)
	for x := range 256 {
		for y := range 256 {
			free, _ := twinDraw(filled(0xff), byte(x), byte(y), rows)
			wantDraw(t, free, byte(x), byte(y), rows, filled(0xff), false)
		}
	}
	// Rows of which no dot has a place.
	for k := 1; k < 8; k++ {
		wantDraw(t, filled(0xff), byte(64-k), 5, []byte{0xff >> k, 0xff >> k}, filled(0xff), false)
	}
	for n := 1; n < 15; n++ {
		below := append(make([]byte, n), rows[n:]...)
		wantDraw(t, filled(0xff), 20, byte(32-n), below, filled(0xff), false)
	}
}

// P17.1: pages, places and rows of all kinds.
func TestAnyDraw(t *testing.T) {
	d := uint64(2)
	for range 20000 {
		page, rows := anyBytes(&d, 256), anyBytes(&d, draw(&d, 16))
		if draw(&d, 2) == 0 {
			// Few dots, so that whether one goes out is now the one, now the other.
			page = with(map[int]byte{draw(&d, 256): 1 << draw(&d, 8), draw(&d, 256): 1 << draw(&d, 8)})
		}
		wantTwin(t, page, byte(draw(&d, 256)), byte(draw(&d, 256)), rows)
	}
}

// P17.1: rows that are a piece of the page itself.
func TestRowsOfThePage(t *testing.T) {
	d := uint64(3)
	for n := range 241 {
		page := anyBytes(&d, 256)
		was := bytes.Clone(page)
		want, gone := twinDraw(page, byte(n), byte(n/8), page[n:n+15])
		wantDraw(t, page, byte(n), byte(n/8), page[n:n+15], want, gone)
		if !bytes.Equal(page, was) {
			t.Fatalf("the page is now %x; it was %x", page, was)
		}
	}
}

// P17.4: drawn twice, the same rows leave a page as it was; the second time a dot goes out just if the first time one came on.
func TestDrawnTwice(t *testing.T) {
	d := uint64(4)
	wants := map[bool]int{}
	for n := range 30000 {
		x, y := byte(draw(&d, 256)), byte(draw(&d, 256))
		page, rows := anyBytes(&d, 256), anyBytes(&d, draw(&d, 16))
		if n%3 == 0 {
			page = filled(byte(0xff * (n % 2)))
		}
		once, _, e := Draw(page, x, y, rows)
		if e != api.OK {
			t.Fatalf("Draw: %d", e)
		}
		came := false
		for k := range page {
			came = came || once[k]&^page[k] != 0
		}
		wants[came]++
		wantDraw(t, once, x, y, rows, page, came)
	}
	if wants[true] < 1000 || wants[false] < 1000 {
		t.Errorf("dots came on or not: %v", wants)
	}
}

// piece are rows at a place.
type piece struct {
	x, y byte
	rows []byte
}

// orders hands on the pieces in every order.
func orders(p []piece, first int, do func([]piece)) {
	if first == len(p) {
		do(p)
		return
	}
	for k := first; k < len(p); k++ {
		p[first], p[k] = p[k], p[first]
		orders(p, first+1, do)
		p[first], p[k] = p[k], p[first]
	}
}

// drawAll draws the pieces one behind another.
func drawAll(t *testing.T, page []byte, pieces []piece) []byte {
	t.Helper()
	for _, p := range pieces {
		next, _, e := Draw(page, p.x, p.y, p.rows)
		if e != api.OK {
			t.Fatalf("Draw: %d", e)
		}
		page = next
	}
	return page
}

// P17.4: some rows drawn in every order, also where they lie over each other and over the edges: the page is the same in the end.
func TestInEveryOrder(t *testing.T) {
	d := uint64(5)
	for n := range 60 {
		page := anyBytes(&d, 256)
		var pieces []piece
		for range 5 {
			pieces = append(pieces, piece{byte(52 + draw(&d, 14)), byte(20 + draw(&d, 14)), anyBytes(&d, 1+draw(&d, 15))})
		}
		if n%2 == 0 {
			pieces[3] = pieces[1]
		}
		want, ways := drawAll(t, page, pieces), 0
		orders(pieces, 0, func(p []piece) {
			ways++
			if end := drawAll(t, page, p); !bytes.Equal(end, want) {
				t.Fatalf("%v on %x: %x; want %x", p, page, end, want)
			}
		})
		if ways != 120 {
			t.Fatalf("%d orders", ways)
		}
	}
}

// P17.4: one picture's rows, drawn by themselves in every order, are the picture drawn at once.
func TestRowsOneByOne(t *testing.T) {
	for n := range byte(16) {
		rows := Digit(n)
		for _, at := range [][2]byte{{0, 0}, {13, 7}, {61, 3}, {30, 29}, {62, 30}} {
			page := filled(0x3c)
			want, _, _ := Draw(page, at[0], at[1], rows[:])
			var pieces []piece
			for k := range rows {
				// A row whose place is below the page would come in at the top by itself.
				if y := at[1] + byte(k); y < 32 {
					pieces = append(pieces, piece{at[0], y, rows[k : k+1]})
				}
			}
			orders(pieces, 0, func(p []piece) {
				if end := drawAll(t, page, p); !bytes.Equal(end, want) {
					t.Fatalf("%d at %v: %x; want %x", n, at, end, want)
				}
			})
		}
	}
}
