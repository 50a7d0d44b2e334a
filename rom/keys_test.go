package rom

import (
	"fmt"
	"testing"
)

// P19.5: a key that is down for 7336 cycles, and up for as many, counts, at whatever moment of a frame it goes down, and whichever comes next.
func TestKeysAtEachMoment(t *testing.T) {
	abreast(t, 150, func(t *testing.T, n int) {
		r, w := asked(t, 2048, nil)
		r.hold(n*frameCycles/150, 0)
		for k := range 4 {
			pressed(r, w, (n*(k+1)+7*k)%16)
		}
		pressed(r, w, 10)
		pressed(r, w, 15*(n%2))
		wantSettled(t, fmt.Sprintf("moment %d", n), r, w)
	})
}

// P19.5: the lowest key ahead of the highest one, and the other way about, are what a monitor that goes through them has least time for.
func TestFirstAndLastKey(t *testing.T) {
	abreast(t, 120, func(t *testing.T, n int) {
		r, w := asked(t, 2048, nil)
		r.hold(n*frameCycles/120+n%7, 0)
		for k := range 4 {
			pressed(r, w, 15*((n+k)%2))
		}
		wantSettled(t, fmt.Sprintf("moment %d", n), r, w)
	})
}

// P19.5: a key counts once, however long it is down and up.
func TestLongKeys(t *testing.T) {
	abreast(t, 8, func(t *testing.T, n int) {
		d := uint64(1300 + n)
		r, w := asked(t, 4096, nil)
		for range 3 {
			k := draw(&d, 16)
			r.hold(twoFrames+draw(&d, 6*frameCycles), 1<<k)
			r.hold(twoFrames+draw(&d, 6*frameCycles), 0)
			w.count(k)
			wantSettled(t, "a long key", r, w)
		}
		r.hold(10*frameCycles, 0)
		wantShown(t, "long behind it", r, w)
	})
}

// hand is what some keys do: masks, each for so many cycles.
type hand []struct {
	keys   uint16
	cycles int
}

// handed lets them do it, and then all be up for long; it wants that just these keys have counted.
func handed(t *testing.T, what string, ahead int, l hand, counts ...int) {
	t.Helper()
	r, w := asked(t, 2048, nil)
	r.hold(ahead, 0)
	for _, x := range l {
		r.hold(x.cycles, x.keys)
	}
	r.hold(twoFrames, 0)
	for _, k := range counts {
		w.count(k)
	}
	wantSettled(t, what, r, w)
	pressed(r, w, 9)
	wantSettled(t, what+", and another key", r, w)
}

// P19.5: no key counts that was down while another one was.
func TestTwoKeysAtOnce(t *testing.T) {
	const long = twoFrames
	abreast(t, 24, func(t *testing.T, n int) {
		ahead := n * frameCycles / 24
		i, j := n%16, (5*n+3)%16
		if i == j {
			j = (j + 1) % 16
		}
		one, other := uint16(1)<<i, uint16(1)<<j
		both := one | other
		handed(t, "both at once", ahead, hand{{both, long}})
		handed(t, "both at once for longer", ahead, hand{{both, 3 * long}})
		handed(t, "the other one within", ahead, hand{{one, long}, {both, long}, {one, long}})
		handed(t, "the other one for longer", ahead, hand{{one, long}, {both, long}, {other, long}})
		handed(t, "all keys", ahead, hand{{0xffff, long}})
		handed(t, "all keys, then the one", ahead, hand{{0xffff, long}, {one, long}})
	})
}

// P19.5: a key that goes down as others go up has none beside it: it counts; those do not, as it is down while they should be up.
func TestKeyBehindKey(t *testing.T) {
	const long = twoFrames
	abreast(t, 24, func(t *testing.T, n int) {
		ahead := n * frameCycles / 24
		i, j, k := n%16, (n+4)%16, (n+9)%16
		one, other, third := uint16(1)<<i, uint16(1)<<j, uint16(1)<<k
		handed(t, "one behind one", ahead, hand{{one, long}, {other, long}}, j)
		handed(t, "one behind one, the other way about", ahead, hand{{other, long}, {one, long}}, i)
		handed(t, "one behind two", ahead, hand{{one | other, long}, {third, long}}, k)
		handed(t, "one behind two behind one", ahead, hand{{third, long}, {one | other, long}, {third, long}}, k)
		handed(t, "the same one, with a frame between", ahead, hand{{one, long}, {0, frameCycles}, {one, long}}, i)
	})
}

// P19.5: a key that is down for a frame or less does not count, nor one behind which another one goes down a frame later or less.
func TestShortKeys(t *testing.T) {
	const long = twoFrames
	abreast(t, 24, func(t *testing.T, n int) {
		d := uint64(1500 + n)
		ahead := n * frameCycles / 24
		i, j := n%16, (n+1+n%7)%16
		one, other := uint16(1)<<i, uint16(1)<<j
		for _, short := range []int{1, 300, 1 + draw(&d, frameCycles), frameCycles} {
			handed(t, fmt.Sprintf("down for %d cycles", short), ahead, hand{{one, short}})
			handed(t, fmt.Sprintf("up for %d cycles", short), ahead, hand{{one, long}, {0, short}, {other, long}}, j)
		}
	})
}

// P19.5: the highest key ahead of the lowest one is what a monitor that goes through them might take too soon.
func TestTooSoon(t *testing.T) {
	abreast(t, 100, func(t *testing.T, n int) {
		ahead := n*frameCycles/100 + n%5
		handed(t, "up for a frame", ahead, hand{{1 << 15, twoFrames + n%3*frameCycles}, {0, frameCycles - n%2*500}, {1, twoFrames}}, 0)
	})
}

// P19.5: nothing wears out: more keys than there are bytes between the places that the monitor has for its own.
func TestVeryManyKeys(t *testing.T) {
	abreast(t, 3, func(t *testing.T, n int) {
		d := uint64(1700 + n)
		r, w := asked(t, 4096, mixed(&d, 4096))
		for _, k := range digitsOf(0x0300) {
			pressed(r, w, k)
		}
		for k := range 120 {
			switch {
			case n == 0: // no command
				pressed(r, w, 1+k%9)
			case k == 0:
				pressed(r, w, 10*(n-1))
			default:
				pressed(r, w, draw(&d, 16))
			}
			if k%20 == 19 {
				wantSettled(t, fmt.Sprintf("%d keys", 5+k), r, w)
			}
		}
	})
}

// P19.5: a key that was down beside C when that was waited for does not count.
func TestKeyBesideC(t *testing.T) {
	abreast(t, 12, func(t *testing.T, n int) {
		r, w := called(t, 2048, nil, 0), newTwin(2048, nil)
		r.hold(firstCycles+n*300, keyC|1<<n)
		r.hold(twoFrames, 1<<n)
		r.hold(twoFrames, 0)
		wantSettled(t, "a key beside C", r, w)
		typed(t, "and behind it", r, w, n, 12)
	})
}
