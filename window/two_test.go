package window_test

import (
	"slices"
	"testing"

	"culvert/window"
)

// P18.4, P0.4: many windows side by side, alike and unlike one another, asked by turns: each answers as if it were alone.
func TestSideBySide(t *testing.T) {
	s := newSampler(8)
	for range 20 {
		var all []*both
		for _, width := range []int{64, 64, 64, 128, 128, 512, 1024, 1024} {
			all = append(all, newBoth(t, pick(s, []uint64{0, 0, 0, 1, 500, last - 2000}), width))
		}
		for range 1500 {
			b := pick(s, all)
			b.mark(t, s.next(b))
			if other := pick(s, all); s.IntN(10) == 0 {
				other.glance(t)
			}
		}
		for _, b := range all {
			b.look(t)
		}
	}
}

// P18.4: what one window takes, its twin still takes; and what one is asked, its twin does not know of.
func TestTwins(t *testing.T) {
	numbers := []uint64{5, 6, 4, 69, 70, 5000, 4999, 4937, 1 << 40, last - 1, last}
	for _, width := range widths() {
		a, b, c := newWindow(t, 5, width), newWindow(t, 5, width), newWindow(t, 6, width)
		for _, x := range numbers {
			a.Mark(x)
			wantTop(t, b, 0, false)
			wantTop(t, c, 0, false)
		}
		for _, w := range []*window.Window{b, c} {
			for _, x := range numbers {
				wantTakes(t, w, x, x >= w.Floor())
			}
		}
		p := newPlain(5, width)
		for _, x := range numbers {
			if got, want := b.Mark(x), p.mark(x); got != want {
				t.Fatalf("the width %d: Mark(%d) = %v", width, x, got)
			}
		}
		wantTop(t, a, last, true)
		wantTop(t, c, 0, false)
		if a.Floor() != 5 || b.Floor() != 5 || c.Floor() != 6 {
			t.Fatalf("the floors are %d, %d, %d", a.Floor(), b.Floor(), c.Floor())
		}
	}
}

// P0.4: the same calls, the same answers, whatever else was made and asked ahead.
func TestSameAgain(t *testing.T) {
	run := func() []bool {
		s, b := newSampler(9), newBoth(t, 100, 192)
		var out []bool
		for range 2000 {
			c := s.next(b)
			b.marks = append(b.marks, c)
			b.p.mark(c)
			out = append(out, b.w.Takes(c), b.w.Mark(c))
		}
		return out
	}
	first := run()
	for _, width := range widths() {
		w := newWindow(t, 0, width)
		for c := range uint64(3000) {
			w.Mark(c)
		}
	}
	if !slices.Equal(first, run()) {
		t.Error("the same calls have other answers")
	}
}
