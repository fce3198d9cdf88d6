package window_test

import (
	"slices"
	"testing"
)

// P18.2, P18.3: below the top by the width less one, by the width and by more, at each width; the top at each place of each word, so that all of a ring, and more, is met.
func TestReach(t *testing.T) {
	for _, width := range widths() {
		reach := uint64(width)
		for _, top := range between(3000, 3000+reach+200) {
			w := newWindow(t, 0, width)
			wantMark(t, w, top, true)
			for _, far := range []uint64{reach, reach + 1, reach + 2, reach + 62, reach + 63, reach + 64, reach + 65, reach + 127, reach + 128, 2 * reach, 2*reach + 64, 2*reach + 128, 3000} {
				wantMark(t, w, top-far, false)
			}
			near := []uint64{1, 2, 31, 32, reach - 32, reach - 2, reach - 1}
			slices.Sort(near)
			for _, less := range slices.Compact(near) { // at the least width two of them are the same
				wantMark(t, w, top-less, true)
			}
			wantMark(t, w, top, false)
			wantTop(t, w, top, true)
		}
	}
}

// P18.2, P18.3: within reach each number is taken once, in whatever order they come, and nothing beside them.
func TestEachInReach(t *testing.T) {
	s := newSampler(1)
	for _, width := range widths() {
		for _, top := range []uint64{5000, 5055, 5056, 5057, 5119, 5120, 1<<32 + 63, 1<<63 + 64, last - 1, last} {
			all := between(top-uint64(width)+1, top)
			falling, shuffled := slices.Clone(all), slices.Clone(all)
			slices.Reverse(falling)
			s.Shuffle(len(shuffled), func(i, j int) { shuffled[i], shuffled[j] = shuffled[j], shuffled[i] })
			for _, order := range [][]uint64{all, falling, shuffled} {
				w := newWindow(t, 0, width)
				wantMark(t, w, top, true)
				for _, c := range order {
					wantMark(t, w, c, c != top)
				}
				for _, c := range order {
					wantMark(t, w, c, false)
				}
				wantTakes(t, w, all[0]-1, false)
				wantTop(t, w, top, true)
			}
		}
	}
}

// P18.2, P18.3: one number within reach is taken, and no other one with it.
func TestNoneBeside(t *testing.T) {
	for _, width := range someWidths() {
		for _, top := range []uint64{4000, 4031, 4032} {
			for _, c := range between(top-uint64(width)+1, top-1) {
				w := newWindow(t, 0, width)
				wantMark(t, w, top, true)
				wantMark(t, w, c, true)
				for _, other := range between(top-uint64(width)+1, top+200) {
					wantTakes(t, w, other, other != top && other != c)
				}
			}
		}
	}
}

// P18.2, P18.3: below the floor nothing is taken, with a top and without, wherever the floor lies within reach; at it and above it, all.
func TestFloorWithinReach(t *testing.T) {
	for _, width := range someWidths() {
		reach := uint64(width)
		for _, floor := range append(edgeFloors(), 4000, 4031, 4032, 4033) {
			for _, above := range []uint64{0, 1, 2, 62, 63, 64, 65, reach - 2, reach - 1, reach, reach + 1, reach + 64, 3 * reach} {
				if above > last-floor {
					continue
				}
				b := newBoth(t, floor, width)
				for _, c := range around(floor, 3) {
					if c < floor {
						b.mark(t, c)
					}
				}
				b.mark(t, floor+above)
				for _, c := range []uint64{up(floor, -64), up(floor, -2), up(floor, -1), floor, up(floor, 1), up(floor, 64)} {
					b.mark(t, c)
				}
				b.look(t)
			}
		}
	}
}

// asked asks a window many things that change nothing.
func asked(b *both) {
	top, _ := b.p.top()
	for _, more := range []int64{-2000, -1088, -1024, -129, -128, -65, -64, -63, -1, 0, 1, 2, 63, 64, 65, 128, 1023, 1024, 1025, 1088, 5000} {
		b.w.Takes(up(top, more))
	}
	b.w.Takes(0)
	b.w.Takes(last)
	b.w.Takes(up(b.p.floor, -1))
	b.w.Takes(b.p.floor)
	b.w.Top()
	b.w.Floor()
}

// refused asks Mark for what it refuses: what is below the floor, was taken, or is out of reach.
func refused(t *testing.T, b *both) {
	t.Helper()
	top, _ := b.p.top()
	list := []uint64{0, up(b.p.floor, -1), up(b.p.floor, -64), top, up(top, -int64(b.p.width)), up(top, -int64(b.p.width)-1), up(top, -int64(b.p.width)-64), up(top, -2000)}
	for _, c := range append(list, b.marks[max(0, len(b.marks)-5):]...) {
		if !b.p.takes(c) && b.w.Mark(c) {
			b.fail(t, "Mark", c, true)
		}
	}
}

// P18.2 to P18.4: Takes, Top and Floor, and a Mark that is refused, change nothing: a window that is asked them at each step answers as one that is not.
func TestNothingChanges(t *testing.T) {
	s := newSampler(2)
	for _, width := range widths() {
		for _, floor := range []uint64{0, 1, 500, last - 4000} {
			quiet, busy := newBoth(t, floor, width), newBoth(t, floor, width)
			asked(busy)
			refused(t, busy)
			for range 60 {
				top, ok := quiet.p.top()
				if !ok {
					top = floor
				}
				c := up(top, s.Int64N(int64(width)+200)-int64(width)*2/3)
				for _, b := range []*both{quiet, busy} {
					b.mark(t, c)
				}
				asked(busy)
				refused(t, busy)
				busy.ends(t)
			}
			quiet.look(t)
			busy.look(t)
		}
	}
}

// P18.2: what Takes tells of a number that is above all, or has no top below it, leaves it to be taken.
func TestTakesTakesNothing(t *testing.T) {
	for _, width := range widths() {
		w := newWindow(t, 7, width)
		for _, c := range []uint64{7, 8, 71, 5000, last} {
			for range 3 {
				wantTakes(t, w, c, true)
			}
		}
		wantTop(t, w, 0, false)
		for _, c := range []uint64{7, 8, 71, 5000, last} {
			wantMark(t, w, c, true)
		}
	}
}
