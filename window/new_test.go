package window_test

import (
	"math"
	"slices"
	"testing"

	"culvert/window"
)

func wantNew(t *testing.T, floor uint64, width int) {
	t.Helper()
	if got, want := window.New(floor, width) != nil, slices.Contains(widths(), width); got != want {
		t.Errorf("New(%d, %d) is a window: %v", floor, width, got)
	}
}

// P18.1: all widths from below 0 to far above MaxWidth, at each floor.
func TestWidths(t *testing.T) {
	for _, floor := range edgeFloors() {
		for width := -2200; width <= 4400; width++ {
			wantNew(t, floor, width)
		}
	}
}

// P18.1: widths that would be right, if they were cut to fewer bits, or turned round.
func TestWidthsFarAway(t *testing.T) {
	far := []int{math.MinInt, math.MinInt + 1, math.MinInt + 64, math.MinInt + 1024, math.MaxInt, math.MaxInt - 63, math.MaxInt - 64, math.MaxInt - 1023}
	for _, bits := range []int{8, 12, 15, 16, 20, 31, 32, 33, 48, 62} {
		for _, width := range widths() {
			far = append(far, 1<<bits*1024+width, -1<<bits*1024+width)
			if bits > 11 {
				far = append(far, 1<<bits+width, -1<<bits+width, 1<<bits-width, -1<<bits-width)
			}
		}
	}
	for _, width := range far {
		if slices.Contains(widths(), width) {
			continue
		}
		for _, floor := range []uint64{0, 1, last} {
			wantNew(t, floor, width)
		}
	}
}

// P18.1, P18.4: a new window has its floor, no top, and has taken nothing: each number is taken that is not below the floor.
func TestNewHasTakenNothing(t *testing.T) {
	for _, floor := range edgeFloors() {
		for _, width := range widths() {
			w := newWindow(t, floor, width)
			if w.Floor() != floor {
				t.Fatalf("New(%d, %d).Floor() = %d", floor, width, w.Floor())
			}
			wantTop(t, w, 0, false)
			for _, c := range append(edgeNumbers(), around(floor, int64(width)+70)...) {
				wantTakes(t, w, c, c >= floor)
			}
			wantTop(t, w, 0, false)
		}
	}
}

// P18.1: what a window has taken, one that is made behind it has not.
func TestNewBehindAnother(t *testing.T) {
	for _, width := range widths() {
		for range 3 {
			w := newWindow(t, 3, width)
			wantTop(t, w, 0, false)
			for _, c := range []uint64{3, 4, 70, 80, 700, 1400, 1399, 1337, last} {
				wantMark(t, w, c, true)
			}
		}
	}
}

// P18.2, P18.3: the first number of all, wherever it is: it is taken, if it is not below the floor, and is the top.
func TestFirst(t *testing.T) {
	for _, floor := range edgeFloors() {
		for _, width := range someWidths() {
			for _, c := range append(edgeNumbers(), around(floor, 70)...) {
				b := newBoth(t, floor, width)
				b.takes(t, c)
				b.mark(t, c)
				if c < floor {
					wantTop(t, b.w, 0, false)
				} else {
					wantTop(t, b.w, c, true)
				}
				b.glance(t)
			}
		}
	}
}
