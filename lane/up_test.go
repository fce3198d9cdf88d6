package lane_test

import (
	"math"
	"testing"

	"culvert/lane"
)

func wantUp(t *testing.T, c uint64, block int, want uint64) {
	t.Helper()
	if got := lane.Up(c, block); got != want {
		t.Errorf("Up(%d, %d) = %d, want %d", c, block, got, want)
	}
}

// P17.4: the sum, as long as it does not pass MaxCounter + 1.
func TestUp(t *testing.T) {
	wantUp(t, 0, 1, 1)
	wantUp(t, 0, 1048575, 1048575)
	wantUp(t, 0, 1048576, 1048576)
	wantUp(t, 7, 1048576, 1048583)
	wantUp(t, 1<<32-1, 1, 1<<32)
	wantUp(t, 1<<63-1, 1, 1<<63)
	wantUp(t, 1<<63, 5, 1<<63+5)
	wantUp(t, 18446744073709551603, 10, 18446744073709551613)
	wantUp(t, 18446744073709551604, 10, 18446744073709551614)
	wantUp(t, 18446744073709551605, 10, 18446744073709551615)
	wantUp(t, 18446744073709551613, 1, 18446744073709551614)
	wantUp(t, 18446744073709551613, 2, 18446744073709551615)
	wantUp(t, 18446744073709551614, 1, 18446744073709551615)
	wantUp(t, 18446744073709551615-1048576, 1048576, 18446744073709551615)
	wantUp(t, 18446744073709551615-1048577, 1048576, 18446744073709551614)
}

// P17.4: sums that pass it end there, those that 64 bits do not hold too.
func TestUpEnds(t *testing.T) {
	for _, block := range []int{1, 2, 3, 10, 1048575, 1048576} {
		wantUp(t, math.MaxUint64, block, math.MaxUint64)
		wantUp(t, maxCounter, block, math.MaxUint64)
		for more := range uint64(3) {
			wantUp(t, math.MaxUint64-uint64(block)+min(more, uint64(block)), block, math.MaxUint64)
			wantUp(t, math.MaxUint64-uint64(block)-more, block, math.MaxUint64-more)
		}
	}
}

// P17.4: 0 of a block that may not be, whatever the counter is.
func TestUpOfNoBlock(t *testing.T) {
	for _, c := range edgeCounters() {
		for _, block := range []int{0, -1, -10, -1048576, math.MinInt, 1048577, 1048578, 1 << 31, 1 << 32, 1<<32 + 1, math.MaxInt} {
			wantUp(t, c, block, 0)
		}
	}
}

// P17.4: against whole numbers, and above c as long as c is a counter.
func TestUpOfAny(t *testing.T) {
	s := newSampler(1)
	counters := edgeCounters()
	for range 2000 {
		counters = append(counters, s.Uint64()>>s.IntN(64), math.MaxUint64-s.Uint64()>>s.IntN(64))
	}
	for _, c := range counters {
		for _, block := range append(edgeBlocks(), s.block(), s.block()) {
			wantUp(t, c, block, plainUp(c, block))
			if got := lane.Up(c, block); plainBlock(block) && c <= maxCounter && got <= c {
				t.Errorf("Up(%d, %d) = %d is not above", c, block, got)
			}
		}
	}
}
