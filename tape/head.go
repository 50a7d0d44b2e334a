package tape

import (
	"strconv"

	"vesper/api"
)

// head goes along a tape, from the first wave on.
type head struct {
	waves []api.Wave
	next  int // the wave that it comes to next
}

// fault is what is wrong with a tape, and at which wave.
type fault struct {
	errno api.Errno
	wave  int
}

func (f fault) Error() string {
	return "tape: error " + strconv.Itoa(int(f.errno)) + " at wave " + strconv.Itoa(f.wave)
}

// bytes reads so many bytes.
func (h *head) bytes(n int) ([]byte, error) {
	out := make([]byte, 0, n)
	for range n {
		b, err := h.byte()
		if err != nil {
			return nil, err
		}
		out = append(out, b)
	}
	return out, nil
}

// byte reads one byte, and what stands ahead of it.
func (h *head) byte() (byte, error) {
	if err := h.begin(); err != nil {
		return 0, err
	}
	var row uint16
	for i := range checkedBits {
		bit, err := h.bit()
		if err != nil {
			return 0, err
		}
		row |= uint16(bit) << i
	}
	if !odd(row) {
		return 0, fault{api.ErrTapeOdd, h.next - 1}
	}
	return byte(row), nil
}

// begin passes over the leader, and the 1 with which a byte begins.
func (h *head) begin() error {
	for {
		bit, err := h.bit()
		if err != nil || bit == 1 {
			return err
		}
	}
}

// bit is what the next wave is.
func (h *head) bit() (byte, error) {
	if h.next == len(h.waves) {
		return 0, fault{api.ErrTapeEnd, h.next}
	}
	w := h.waves[h.next]
	if !isBit(w) {
		return 0, fault{api.ErrTapeWave, h.next}
	}
	h.next++
	if w.High+w.Low <= api.MostShort {
		return 0, nil
	}
	return 1, nil
}

// isBit tells whether a wave is a bit.
func isBit(w api.Wave) bool {
	// Each half is held against the most first: of greater ones the sum may wrap round.
	if min(w.High, w.Low) < 1 || max(w.High, w.Low) > api.MostWave {
		return false
	}
	whole := w.High + w.Low
	return whole >= api.LeastWave && whole <= api.MostWave
}
