package lane_test

import (
	"math"
	"testing"

	"culvert/api"
)

// Reserve and Raise do the same to SendCur and to Ceil.

// bound is one of the two: its call, and its field set in a lane. The other field is 12345, so that it is told if one is taken for the other.
type bound struct {
	name string
	call func(counter uint64, block int) call
	at   func(x uint64) api.Lane
}

func bounds() []bound {
	base := api.Lane{Key: key(6), Side: 1, Cur: 4, Next: 9, Seen: stampOf(8, 3)}
	return []bound{
		{"Reserve", reserve, func(x uint64) api.Lane {
			return with(base, func(l *api.Lane) { l.SendCur, l.Ceil = x, 12345 })
		}},
		{"Raise", raise, func(x uint64) api.Lane {
			return with(base, func(l *api.Lane) { l.SendCur, l.Ceil = 12345, x })
		}},
	}
}

// P17.5, P17.9: below, at and above what stands; the other fields stay.
func TestReserveAndRaise(t *testing.T) {
	for _, b := range bounds() {
		for _, x := range []struct {
			stands, counter uint64
			block           int
			is              uint64
		}{
			{0, 0, 1, 1}, {0, 0, 10, 10}, {0, 5, 10, 15}, {10, 10, 10, 20}, {10, 11, 10, 21}, {10, 25, 10, 35}, {10, 10, 1, 11},
			{0, 0, 1048576, 1048576}, {7, 7, 1048575, 1048582}, {1 << 63, 1 << 63, 1, 1<<63 + 1}, {12344, 12344, 1, 12345}, {12346, 12346, 5, 12351}, {0, 12345, 1, 12346},
			{10, maxCounter, 1, maxCounter + 1}, {maxCounter, maxCounter, 1, maxCounter + 1}, {maxCounter, maxCounter, 10, maxCounter + 1}, {maxCounter - 1, maxCounter - 1, 1, maxCounter},
			{maxCounter - 1, maxCounter - 1, 2, maxCounter + 1}, {maxCounter - 1, maxCounter - 1, 1048576, maxCounter + 1}, {maxCounter - 1, maxCounter, 1048576, maxCounter + 1}, {0, maxCounter - 9, 10, maxCounter + 1}, {0, maxCounter - 10, 10, maxCounter},
		} {
			wantLane(t, b.name, b.at(x.stands), b.call(x.counter, x.block), b.at(x.is))
		}
	}
}

// P17.5, P17.9: refused below what stands, and above MaxCounter; also where that is above what stands.
func TestReserveAndRaiseRefused(t *testing.T) {
	for _, b := range bounds() {
		for _, x := range []struct{ stands, counter uint64 }{
			{1, 0}, {10, 9}, {10, 0}, {12346, 12345}, {1 << 63, 1<<63 - 1}, {maxCounter, maxCounter - 1}, {maxCounter, 0}, {maxCounter + 1, maxCounter}, {maxCounter + 1, 0},
			{0, maxCounter + 1}, {10, maxCounter + 1}, {maxCounter, maxCounter + 1}, {maxCounter + 1, maxCounter + 1},
		} {
			for _, block := range []int{1, 10, maxBlock} {
				wantLane(t, b.name+" refused", b.at(x.stands), b.call(x.counter, block), api.Lane{})
			}
		}
	}
}

// P17.5, P17.9: refused with a block that may not be, at each of the counters.
func TestReserveAndRaiseOfNoBlock(t *testing.T) {
	for _, b := range bounds() {
		for _, block := range []int{0, -1, -10, math.MinInt, 1048577, 1<<32 + 1, math.MaxInt} {
			for _, counter := range []uint64{9, 10, 11, maxCounter, maxCounter + 1} {
				wantLane(t, b.name+" with no block", b.at(10), b.call(counter, block), api.Lane{})
			}
		}
	}
}

// P17.5, P17.9: again and again at what stands, until the last counter; nothing behind it.
func TestReserveAndRaiseToTheEnd(t *testing.T) {
	for _, b := range bounds() {
		for _, block := range []int{1, 3, 10, 1000, maxBlock} {
			l, stands := b.at(maxCounter-1000), maxCounter-1000
			for steps := 0; stands <= maxCounter; steps++ {
				if steps > 1001 {
					t.Fatalf("%s: %d steps of %d have not led to the end", b.name, steps, block)
				}
				is := plainUp(stands, block)
				wantLane(t, b.name+" on", l, b.call(stands, block), b.at(is))
				l, stands = b.call(stands, block).do(l).lane, is
			}
			for _, counter := range edgeCounters() {
				wantLane(t, b.name+" at the end", l, b.call(counter, block), api.Lane{})
			}
		}
	}
}
