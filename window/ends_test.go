package window_test

import "testing"

// P18.2, P18.3: near 0: a top that is less than the width has all numbers below it within reach.
func TestNearZero(t *testing.T) {
	for _, width := range widths() {
		for _, floor := range []uint64{0, 1, 2, 63, 64, 65} {
			for _, top := range []uint64{0, 1, 2, 62, 63, 64, 65, 127, 128, uint64(width) - 65, uint64(width) - 2, uint64(width) - 1, uint64(width), uint64(width) + 1, uint64(width) + 63, uint64(width) + 64} {
				if top > 1<<60 {
					continue
				}
				b := newBoth(t, floor, width)
				b.mark(t, top)
				b.look(t)
				for _, c := range between(0, min(top, 70)) {
					b.mark(t, c)
				}
				b.look(t)
			}
		}
	}
}

// P18.2, P18.3: near the greatest number: no number above the top is taken for one below it, and nothing below it for one above.
func TestNearLast(t *testing.T) {
	for _, width := range widths() {
		for _, floor := range []uint64{0, 1, last - 2048, last - 64, last - 1, last} {
			for _, less := range []uint64{0, 1, 2, 62, 63, 64, 65, 127, 128, uint64(width) - 1, uint64(width), uint64(width) + 1, uint64(width) + 64} {
				b := newBoth(t, floor, width)
				b.mark(t, last-less)
				b.look(t)
				for _, c := range around(last, 70) {
					b.mark(t, c)
				}
				b.look(t)
				for _, c := range []uint64{0, 1, 63, 64, uint64(width) - 1, uint64(width), 1 << 63} {
					b.mark(t, c)
				}
			}
		}
	}
}

// P18.2, P18.3: all numbers near the greatest one, rising and falling, each once.
func TestToTheLast(t *testing.T) {
	for _, width := range widths() {
		rising, falling := newWindow(t, 0, width), newWindow(t, 0, width)
		all := between(last-3000, last)
		for i, c := range all {
			wantMark(t, rising, c, true)
			wantMark(t, falling, all[len(all)-1-i], i < width)
		}
		for _, w := range []int{0, 1, 63, 64, width, 3000} {
			wantMark(t, rising, last-uint64(w), false)
			wantMark(t, falling, last-uint64(w), false)
		}
		wantTop(t, rising, last, true)
		wantTop(t, falling, last, true)
		for _, c := range []uint64{0, 1, 64, 1 << 63} {
			wantMark(t, rising, c, false)
			wantMark(t, falling, c, false)
		}
	}
}

// P18.2: numbers that differ from the top, or from one that was taken, by a power of 2 are not taken for it.
func TestPowers(t *testing.T) {
	for _, width := range someWidths() {
		for _, c := range []uint64{0, 1, 63, 64, 5000, 1<<32 + 7} {
			for shift := range 64 {
				by := uint64(1) << shift
				if by > last-c {
					continue
				}
				b := newBoth(t, 0, width)
				b.mark(t, c)
				b.takes(t, c+by)
				b.mark(t, c+by)
				b.mark(t, c)
				b.glance(t)
			}
		}
	}
}
