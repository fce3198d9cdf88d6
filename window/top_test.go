package window_test

import "testing"

// P18.3, P18.4: none at first, then the greatest number that was taken; what is taken below it, or refused, leaves it.
func TestTop(t *testing.T) {
	for _, width := range widths() {
		w := newWindow(t, 10, width)
		wantTop(t, w, 0, false)
		for _, c := range []uint64{0, 9} {
			wantMark(t, w, c, false)
			wantTop(t, w, 0, false)
		}
		for _, one := range []struct {
			c   uint64
			ok  bool
			top uint64
		}{
			{40, true, 40}, {12, true, 40}, {40, false, 40}, {39, true, 40}, {9, false, 40}, {10, true, 40}, {10, false, 40},
			{41, true, 41}, {73, true, 73}, {42, true, 73}, {73, false, 73}, {1 << 40, true, 1 << 40}, {73, false, 1 << 40}, {0, false, 1 << 40}, {1<<40 - 63, true, 1 << 40},
			{last - 1, true, last - 1}, {last, true, last}, {last, false, last}, {last - 1, false, last}, {last - 2, true, last}, {0, false, last},
		} {
			wantMark(t, w, one.c, one.ok)
			wantTop(t, w, one.top, true)
		}
		if w.Floor() != 10 {
			t.Errorf("the width %d: Floor() = %d", width, w.Floor())
		}
	}
}

// P18.2 to P18.4: the number 0 is a top like others: behind it 0 is refused, and Top tells that there is one.
func TestZeroAsTop(t *testing.T) {
	for _, width := range widths() {
		for _, next := range []uint64{1, 2, 63, 64, 65, uint64(width) - 1, uint64(width), uint64(width) + 1, uint64(width) + 64, last} {
			w := newWindow(t, 0, width)
			wantTop(t, w, 0, false)
			wantMark(t, w, 0, true)
			wantTop(t, w, 0, true)
			wantMark(t, w, 0, false)
			wantTop(t, w, 0, true)
			for _, c := range edgeNumbers() {
				wantTakes(t, w, c, c != 0)
			}
			wantMark(t, w, next, true)
			wantTop(t, w, next, true)
			wantMark(t, w, 0, false)
			if next > 1 {
				wantMark(t, w, next-1, true)
			}
			wantTop(t, w, next, true)
		}
	}
}

// P18.2, P18.3: the number 0 below a top, each distance that it may have: it is taken while it is within reach.
func TestZeroBelowTop(t *testing.T) {
	for _, width := range widths() {
		for _, top := range between(1, uint64(width)+200) {
			w := newWindow(t, 0, width)
			wantMark(t, w, top, true)
			wantMark(t, w, 0, top < uint64(width))
			wantTop(t, w, top, true)
		}
	}
}
