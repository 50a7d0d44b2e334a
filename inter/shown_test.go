package inter

import (
	"bytes"
	"testing"

	"vesper/api"
	"vesper/frame"
)

// shown plays so many cycles, and is the frames that were shown, and the page as it was when each frame's interrupt came.
func (m *machine) shown(cycles int) ([]api.Frame, [][]byte) {
	m.t.Helper()
	var records []api.Record
	var pages [][]byte
	from := m.State().Raster
	for range cycles {
		r := m.tick()
		records = append(records, r)
		if r.Code == api.S3 {
			pages = append(pages, m.State().RAM[api.PageAt:])
		}
	}
	l, e := frame.Of(from, records)
	if e != api.OK {
		m.t.Fatalf("frame.Of: %d", e)
	}
	return l, pages
}

// T2: while orders are done each frame is whole, and shows the page, row by row, as it was when the frame's interrupt came.
func TestShown(t *testing.T) {
	programs := [][]byte{
		{0x12, 0x00},
		{0xf0, 0x0a, 0x12, 0x00},
		{0x00, 0xe0, 0x12, 0x00},
		{0xc0, 0xff, 0xc1, 0xff, 0xc2, 0xff, 0xf2, 0x29, 0xd0, 0x15, 0x12, 0x00},
		{0xa2, 0x00, 0x70, 0x07, 0x71, 0x03, 0xd0, 0x1f, 0x82, 0x04, 0x82, 0x15, 0x83, 0x21, 0x12, 0x02},
		{0xa3, 0x00, 0xff, 0x55, 0xa3, 0x00, 0xff, 0x65, 0xfe, 0x33, 0x7e, 0x01, 0x12, 0x00},
		{0x22, 0x04, 0x12, 0x00, 0x71, 0x01, 0xe1, 0x9e, 0x62, 0x01, 0xe1, 0xa1, 0x62, 0x02, 0x00, 0xee},
	}
	abreast(t, len(programs), func(t *testing.T, n int) {
		d := uint64(3500 + n)
		m := begun(t, programs[n])
		g := m.game()
		g.Page, g.Sound, g.Delay = mixed(&d, api.PageSize), 40, 30
		m.lay(g)
		for m.State().Raster.Line != 0 {
			m.tick()
		}
		l, pages := m.shown(30 * frameCycles)
		if len(l) < 29 || len(pages) < len(l) {
			t.Fatalf("%d frames, %d interrupts", len(l), len(pages))
		}
		for k, f := range l {
			page, is := frame.Page(f)
			if f.Short || !is || !bytes.Equal(page, pages[k]) {
				t.Fatalf("frame %d: short %v, a page %v", k, f.Short, is)
			}
		}
	})
}
