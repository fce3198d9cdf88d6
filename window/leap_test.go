package window_test

import (
	"testing"

	"culvert/window"
)

// leaps are by how much a top rises: around each multiple of a word up to beyond the ring, and far.
func leaps(width int) []uint64 {
	out := []uint64{2, 3, 31, 32, 33, 2 * uint64(width), 2*uint64(width) + 64, 2*uint64(width) + 128, 1 << 16, 1<<32 - 1, 1 << 32, 1<<32 + 1, 1 << 58, 1<<63 - 1, 1 << 63, 1<<63 + 1}
	for words := range uint64(width/64 + 4) {
		out = append(out, words*64+1, words*64+62, words*64+63, words*64+64)
	}
	return out
}

// patterns tell which numbers are taken ahead of a leap.
func patterns() map[string]func(c, top uint64) bool {
	return map[string]func(c, top uint64) bool{
		"all":            func(c, top uint64) bool { return true },
		"the top alone":  func(c, top uint64) bool { return c == top },
		"each second":    func(c, top uint64) bool { return (top-c)%2 == 0 },
		"ends of words":  func(c, top uint64) bool { return c%64 == 63 || c == top },
		"heads of words": func(c, top uint64) bool { return c%64 == 0 || c == top },
		"any":            func(c, top uint64) bool { return c*0x9E3779B97F4A7C15>>63 == 1 || c == top },
	}
}

// filled has taken, up to the top and from far below it on, what the pattern tells.
func filled(t *testing.T, width int, top uint64, taken func(c, top uint64) bool) *window.Window {
	t.Helper()
	w := newWindow(t, 0, width)
	for _, c := range between(top-uint64(2*width)-200, top) {
		if taken(c, top) && !w.Mark(c) {
			t.Fatalf("the width %d: Mark(%d) is false", width, c)
		}
	}
	wantTop(t, w, top, true)
	return w
}

// wantReach: at that top just those numbers are taken that are above it, or within reach and not taken so far.
func wantReach(t *testing.T, w *window.Window, width int, top uint64, taken func(c uint64) bool) {
	t.Helper()
	wantTop(t, w, top, true)
	for _, c := range between(up(top, -int64(width)-200), up(top, int64(width)+200)) {
		wantTakes(t, w, c, c > top || top-c < uint64(width) && !taken(c))
	}
}

// leap has a window's top rise, looks at what is in reach, takes all of it, looks again, and has the top rise once more.
func leap(t *testing.T, width int, top, by uint64, pattern func(c, top uint64) bool) {
	t.Helper()
	w := filled(t, width, top, pattern)
	to := top + by
	wantMark(t, w, to, true)
	taken := func(c uint64) bool { return c == to || c <= top && pattern(c, top) }
	wantReach(t, w, width, to, taken)
	for _, c := range between(up(to, -int64(width)-70), to) {
		wantMark(t, w, c, to-c < uint64(width) && !taken(c))
	}
	wantReach(t, w, width, to, func(c uint64) bool { return true })
	if again := up(to, 70); again > to {
		wantMark(t, w, again, true)
		wantReach(t, w, width, again, func(c uint64) bool { return c <= to || c == again })
	}
}

// P18.2, P18.3: behind each leap of the top, what was taken ahead of it and is still within reach is refused, and all else within reach is taken.
func TestLeaps(t *testing.T) {
	for _, width := range widths() {
		ring := uint64(width) + 64
		for _, top := range []uint64{10 * ring, 10*ring + 1, 10*ring + 63, 11*ring - 1, 11*ring - 64, 10*ring + 160} {
			for _, by := range leaps(width) {
				leap(t, width, top, by, patterns()["all"])
				if by%64 < 2 {
					leap(t, width, top, by, patterns()["any"])
				}
			}
		}
	}
}

// P18.2, P18.3: the same by all leaps up to beyond the ring, from all places of the top within a ring, at the least widths.
func TestAllLeaps(t *testing.T) {
	for _, width := range []int{64, 128} {
		ring := uint64(width) + 64
		for _, top := range between(5*ring, 6*ring-1) {
			for _, by := range between(1, ring+70) {
				leap(t, width, top, by, patterns()["each second"])
			}
		}
	}
}

// P18.2, P18.3: the same with each pattern of what was taken ahead, by leaps around the width.
func TestLeapsOfPatterns(t *testing.T) {
	for _, width := range someWidths() {
		reach := uint64(width)
		for _, pattern := range patterns() {
			for _, top := range []uint64{20000, 20031, 20032, 20033, 1<<32 - 1, 1<<63 - 64} {
				for _, by := range []uint64{1, 63, 64, 65, reach - 65, reach - 64, reach - 1, reach, reach + 1, reach + 63, reach + 64, reach + 65, reach + 128, 4 * reach} {
					if by > 0 && by < 1<<60 { // the width less 64 or 65 is none at the least width
						leap(t, width, top, by, pattern)
					}
				}
			}
		}
	}
}

// P18.2, P18.3: leaps by nearly 2^64: to the last numbers from the first ones.
func TestLongestLeaps(t *testing.T) {
	for _, width := range widths() {
		for first := range uint64(200) {
			for _, less := range []uint64{0, 1, 62, 63, 64, 65, uint64(width), uint64(width) + 64, uint64(width) + 128} {
				w := newWindow(t, 0, width)
				for c := range first + 1 {
					wantMark(t, w, c, true)
				}
				to := last - less
				wantMark(t, w, to, true)
				if first%20 == 0 {
					wantReach(t, w, width, to, func(c uint64) bool { return c == to })
				}
				wantMark(t, w, first, false)
				wantMark(t, w, to-uint64(width)+1, true)
				wantMark(t, w, to-uint64(width), false)
			}
		}
	}
}

// P18.2, P18.3: many leaps one behind the other, of one length, over many rings: what each has taken is refused as long as it is within reach, and what lies between is taken.
func TestManyLeaps(t *testing.T) {
	for _, width := range widths() {
		for _, by := range []uint64{1, 2, 63, 64, 65, 127, 128, uint64(width) - 1, uint64(width), uint64(width) + 1, uint64(width) + 63, uint64(width) + 64, uint64(width) + 65} {
			w := newWindow(t, 0, width)
			top := uint64(0)
			wantMark(t, w, top, true)
			for range 100 {
				top += by
				wantMark(t, w, top, true)
				for back := range uint64(5) {
					if back*by <= top {
						wantTakes(t, w, top-back*by, false)
					}
				}
				for _, c := range []uint64{top - by + 1, up(top, -int64(width)), up(top, -int64(width)+1), up(top, -int64(width)+2)} {
					wantTakes(t, w, c, c > top || top-c < uint64(width) && c%by != 0)
				}
			}
		}
	}
}
