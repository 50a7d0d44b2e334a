package frame

import (
	"slices"
	"testing"

	"vesper/api"
)

// paged is a frame that shows a page, each row four times.
func paged(page []byte) api.Frame {
	f := api.Frame{Rows: make([][]byte, 128)}
	for k := range f.Rows {
		f.Rows[k] = slices.Clone(page[k/4*8 : k/4*8+8])
	}
	return f
}

func anyPage(d *uint64) []byte {
	page := make([]byte, 256)
	for i := range page {
		page[i] = byte(draw(d, 256))
	}
	return page
}

func wantPage(t *testing.T, f api.Frame, want []byte) {
	t.Helper()
	if p, is := Page(f); !is || !slices.Equal(p, want) {
		t.Errorf("Page of %x: %x, %v; want %x", f.Rows, p, is, want)
	}
}

func wantNoPage(t *testing.T, name string, f api.Frame) {
	t.Helper()
	if p, is := Page(f); p != nil || is {
		t.Errorf("Page (%s): %x, %v", name, p, is)
	}
}

// P10.4: pages of all kinds; From is any that may be.
func TestPage(t *testing.T) {
	d := uint64(5)
	for _, page := range [][]byte{make([]byte, 256), slices.Repeat([]byte{0xff}, 256), slices.Repeat([]byte{1, 2, 3, 4, 5, 6, 7, 8}, 32), anyPage(&d), anyPage(&d)} {
		f := paged(page)
		wantPage(t, f, page)
		f.From = 7
		wantPage(t, f, page)
	}
	up := make([]byte, 256)
	for i := range up {
		up[i] = byte(i)
	}
	wantPage(t, paged(up), up)
}

// P10.4: rows that differ in one bit, at each of the four places, in each bit of each row; all four changed alike are a page again.
func TestOneBitApart(t *testing.T) {
	d := uint64(6)
	page := anyPage(&d)
	f := paged(page)
	for k := range 128 {
		for bit := range 64 {
			f.Rows[k][bit/8] ^= 1 << (bit % 8)
			wantNoPage(t, "one bit apart", f)
			f.Rows[k][bit/8] ^= 1 << (bit % 8)
		}
	}
	for k := range 32 {
		for i := range 4 {
			f.Rows[4*k+i][k%8] ^= 0x10
		}
		page[8*k+k%8] ^= 0x10
		wantPage(t, f, page)
	}
}

// P10.4: rows that are the same by fours, but from another line on; pairs that are the same; the same bytes in other rows.
func TestRowsElsewhere(t *testing.T) {
	d := uint64(7)
	f := paged(anyPage(&d))
	for shift := 1; shift < 4; shift++ {
		g := api.Frame{Rows: slices.Concat(f.Rows[shift:], f.Rows[:shift])}
		wantNoPage(t, "shifted", g)
	}
	for k := range 32 {
		g := cloneFrame(f)
		g.Rows[4*k+2], g.Rows[4*k+3] = slices.Repeat([]byte{9}, 8), slices.Repeat([]byte{9}, 8)
		wantNoPage(t, "pairs", g)
		g = cloneFrame(f)
		g.Rows[4*k], g.Rows[(4*k+4)%128] = g.Rows[(4*k+4)%128], g.Rows[4*k]
		wantNoPage(t, "two rows for each other", g)
	}
}

// P10.4: a short frame has no page, not even where its rows are the same by fours, and one that may not be has none.
func TestNoPage(t *testing.T) {
	wantNoPage(t, "empty", empty())
	f := paged(make([]byte, 256))
	for k := 8; k < 12; k++ {
		f.Rows[k] = f.Rows[k][:7]
	}
	wantNoPage(t, "four rows of 7, not said to be short", f)
	f.Short = true
	wantNoPage(t, "four rows of 7", f)
	f = paged(make([]byte, 256))
	f.Rows[127], f.Short = f.Rows[127][:7], true
	wantNoPage(t, "1023 bytes", f)
	f = paged(make([]byte, 256))
	f.Short = true
	wantNoPage(t, "1024 bytes, said to be short", f)
	f = paged(make([]byte, 256))
	f.From = -1
	wantNoPage(t, "From -1", f)
	f = paged(make([]byte, 256))
	wantNoPage(t, "127 rows", api.Frame{Rows: f.Rows[:127]})
	wantNoPage(t, "132 rows", api.Frame{Rows: append(slices.Clone(f.Rows), f.Rows[:4]...)})
	for k := 8; k < 12; k++ {
		f.Rows[k] = make([]byte, 9)
	}
	wantNoPage(t, "four rows of 9", f)
	for k := 4; k < 8; k++ {
		f.Rows[k] = make([]byte, 7)
	}
	wantNoPage(t, "four rows of 9, four of 7", f)
	wantNoPage(t, "zero", api.Frame{})
}

// P10.4: a frame with rows that share memory is told as any other one.
func TestSharedRows(t *testing.T) {
	row := []byte{8, 7, 6, 5, 4, 3, 2, 1}
	f := api.Frame{Rows: make([][]byte, 128)}
	for k := range f.Rows {
		f.Rows[k] = row
	}
	wantPage(t, f, slices.Repeat(row, 32))
	wantThereAndBack(t, f)
}
