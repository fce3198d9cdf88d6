package window_test

import (
	"slices"
	"testing"

	"culvert/window"
)

// watch holds a window to P18.5 and to the first sentence of P18.6 alone, and knows nothing else of what it must answer.
type watch struct {
	*window.Window
	taken   map[uint64]int // how often Mark answered true
	refused map[uint64]int // how often a number was refused
	top     uint64
	hasTop  bool
}

func newWatch(t *testing.T, floor uint64, width int) *watch {
	t.Helper()
	return &watch{Window: newWindow(t, floor, width), taken: map[uint64]int{}, refused: map[uint64]int{}}
}

func (w *watch) takes(t *testing.T, c uint64) bool {
	ok := w.Takes(c)
	w.judge(t, c, ok)
	return ok
}

func (w *watch) mark(t *testing.T, c uint64) bool {
	ok := w.Mark(c)
	w.judge(t, c, ok)
	if ok {
		w.taken[c]++
		w.refused[c]++ // from now on it is
	}
	top, hasTop := w.Top()
	if hasTop != (w.hasTop || ok) || top < w.top || !ok && top != w.top {
		t.Helper()
		t.Fatalf("behind Mark(%d) = %v the top is %d, %v, and was %d, %v", c, ok, top, hasTop, w.top, w.hasTop)
	}
	w.top, w.hasTop = top, hasTop
	return ok
}

func (w *watch) judge(t *testing.T, c uint64, ok bool) {
	switch {
	case ok && w.taken[c] > 0:
		t.Helper()
		t.Fatalf("%d is taken twice", c)
	case ok && w.refused[c] > 0:
		t.Helper()
		t.Fatalf("%d was refused, and is taken", c)
	case !ok && c >= w.Floor() && (!w.hasTop || c > w.top):
		t.Helper()
		t.Fatalf("%d is refused, which is at the floor %d or above it, and above the top %d, %v", c, w.Floor(), w.top, w.hasTop)
	case !ok:
		w.refused[c]++
	}
}

// all asks again all that was refused.
func (w *watch) all(t *testing.T) {
	t.Helper()
	for c := range w.refused {
		if w.takes(t, c) || w.mark(t, c) {
			t.Fatalf("%d was refused, and is taken", c)
		}
	}
}

// P18.5: whatever is asked, in any order, each number is taken at most once, what was refused is refused for ever, and the top never falls.
func TestOnce(t *testing.T) {
	s := newSampler(5)
	for _, width := range widths() {
		for _, floor := range []uint64{0, 1, 700, 1 << 63, last - 5000, last - 100, last} {
			w := newWatch(t, floor, width)
			base := floor
			for i := range 3000 {
				c := up(base, s.Int64N(int64(width)*3+300)-int64(width)*2)
				switch s.IntN(60) {
				case 0:
					base = up(base, s.Int64N(3*int64(width)))
				case 1:
					c = s.Uint64N(last)
					if c > w.top && s.IntN(30) > 0 { // seldom: behind a long leap nothing ahead of it is told any more
						c = w.top
					}
				case 2:
					base = max(base, w.top)
				}
				if s.IntN(3) == 0 {
					w.takes(t, c)
				} else {
					w.mark(t, c)
				}
				if i%1000 == 0 {
					w.all(t)
				}
			}
			w.all(t)
		}
	}
}

// P18.5: one number is asked again and again, while others are taken, at each distance of the top from it, by steps of any length.
func TestRefusedForEver(t *testing.T) {
	for _, width := range widths() {
		for _, by := range []uint64{1, 7, 63, 64, 65, uint64(width), uint64(width) + 64, uint64(width) + 128} {
			for _, c := range []uint64{1000, 1023, 1024} {
				w := newWatch(t, 1000, width)
				w.mark(t, 999)
				if !w.mark(t, c) {
					t.Fatalf("the width %d: Mark(%d) is false", width, c)
				}
				for top := c; top < c+5*uint64(width)+500; top += by {
					w.mark(t, top)
					if w.takes(t, c) || w.mark(t, c) || w.takes(t, 999) || w.mark(t, 999) {
						t.Fatalf("the width %d: %d or 999 is taken at the top %d", width, c, top)
					}
				}
				w.mark(t, last)
				w.all(t)
			}
		}
	}
}

// disturbed are numbers from a first one on, in an order in which each is above the greatest one so far less the width; some of them come again, some never.
func (s sampler) disturbed(first uint64, width, count int) []uint64 {
	out := []uint64{first}
	greatest := first
	for len(out) < count {
		c := up(greatest, -s.Int64N(int64(width)))
		if s.IntN(4) == 0 {
			c = up(greatest, 1+s.Int64N(2))
		}
		if s.IntN(300) == 0 {
			c = up(greatest, 1+s.Int64N(2*int64(width)))
		}
		greatest = max(greatest, c)
		out = append(out, c)
	}
	return out
}

// wantFirst: each number that is not below the floor is taken when it comes first, and never again.
func wantFirst(t *testing.T, floor uint64, width int, order []uint64) {
	t.Helper()
	w := newWatch(t, floor, width)
	came := map[uint64]int{}
	for i, c := range order {
		at, again := came[c]
		if got, want := w.mark(t, c), c >= floor && !again; got != want {
			t.Fatalf("the width %d, the floor %d: Mark(%d) = %v as the number %d of the order; it came at %d: %v; those ahead: %d", width, floor, c, got, i, at, again, order[max(0, i-20):i])
		}
		if !again {
			came[c] = i
		}
	}
	w.all(t)
}

// P18.6: orders that are disturbed by less than the width, at floors below, among and above them.
func TestInReach(t *testing.T) {
	s := newSampler(6)
	for _, width := range widths() {
		for _, first := range []uint64{0, 1, 63, 64, 5000, 1 << 32, 1<<63 - 1000, last - 3000, last - 1000, last - 63, last} {
			for range 3 {
				order := s.disturbed(first, width, 4000)
				top := slices.Max(order)
				for _, floor := range []uint64{0, first, up(first, 1), up(first, int64(width)), first + (top-first)/2, top} {
					wantFirst(t, floor, width, order)
				}
			}
		}
	}
}

// P18.6: blocks that are turned round: of the width's length each number is taken when it comes first; of one more, the last of each block comes too late.
func TestTurnedBlocks(t *testing.T) {
	for _, width := range widths() {
		for _, first := range []uint64{0, 1, 63, 1 << 40, last - 10*1025 + 1} {
			for _, size := range []int{2, 63, 64, 65, width - 1, width, width + 1} {
				w := newWatch(t, 0, width)
				for block := range uint64(10) {
					from := first + block*uint64(size)
					for i := range size {
						c := from + uint64(size-1-i)
						if got, want := w.mark(t, c), i < width; got != want {
							t.Fatalf("the width %d, blocks of %d: Mark(%d) = %v", width, size, c, got)
						}
					}
				}
				w.all(t)
			}
		}
	}
}

// P18.6: one number that comes late, at each distance that it may have: all others come one behind the other.
func TestLate(t *testing.T) {
	for _, width := range widths() {
		for _, first := range []uint64{0, 31, 63, 64, last - 3000} {
			for _, late := range []uint64{1, 2, 62, 63, 64, 65, uint64(width) / 2, uint64(width) - 2, uint64(width) - 1, uint64(width), uint64(width) + 1, uint64(width) + 64, uint64(width) + 65} {
				w := newWatch(t, 0, width)
				missing := first + 100
				for _, c := range between(first, missing+late) {
					if c != missing && !w.mark(t, c) {
						t.Fatalf("the width %d: Mark(%d) is false", width, c)
					}
				}
				if got, want := w.mark(t, missing), late < uint64(width); got != want {
					t.Fatalf("the width %d: Mark(%d) = %v, late by %d", width, missing, got, late)
				}
				w.all(t)
			}
		}
	}
}

// P18.6: what is at the floor or above it and above the top is taken, at each step: tops that rise by lengths of all kinds, with nothing taken between, and with all.
func TestAboveTheTop(t *testing.T) {
	s := newSampler(7)
	for _, width := range widths() {
		for i := range 40 {
			w := newWatch(t, s.Uint64()>>(10+s.IntN(54)), width)
			c := w.Floor()
			for range 200 {
				if !w.takes(t, c) || !w.mark(t, c) {
					t.Fatalf("the width %d: %d is refused at the top %d", width, c, w.top)
				}
				if i%2 == 0 {
					for _, below := range between(up(c, -int64(width)), c) {
						w.Mark(below)
					}
				}
				by := 1 + s.Uint64()>>(s.IntN(30)+34)
				if s.IntN(2) == 0 {
					by = 1 + s.Uint64N(2*uint64(width))
				}
				c += by
			}
			if c = last; !w.mark(t, c) {
				t.Fatalf("the width %d: the last number is refused", width)
			}
		}
	}
}
