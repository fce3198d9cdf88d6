package lane_test

import (
	"math"
	"testing"

	"culvert/api"
)

// at is some lane with those generations.
func at(cur, next int) api.Lane {
	return with(someLane(), func(l *api.Lane) { l.Cur, l.Next = cur, next })
}

// behind is that lane with another generation in force.
func behind(l api.Lane, gen int, sendCur, ceil uint64, seen api.Stamp) api.Lane {
	return api.Lane{Key: l.Key, Side: l.Side, Cur: gen, Next: l.Next, SendCur: sendCur, Ceil: ceil, Seen: seen}
}

// P17.7: gen at, below and above Cur, Next and MaxGen; the answer's counter is 1 up to Next, and 0 above it.
func TestAnsweredGen(t *testing.T) {
	s := stampOf(6, 0)
	for _, x := range []struct {
		cur, next, gen int
		own            uint64
	}{
		{1, 0, 2, 0}, {1, 0, 3, 0}, {1, 0, maxGen, 0}, {1, 1, 2, 0}, {1, 2, 2, 1}, {1, 2, 3, 0}, {3, 5, 4, 1}, {3, 5, 5, 1}, {3, 5, 6, 0}, {3, 5, 7, 0}, {3, 5, maxGen, 0},
		{5, 3, 6, 0}, {5, 5, 6, 0}, {5, 6, 6, 1}, {1, maxGen, 2, 1}, {1, maxGen, maxGen - 1, 1}, {1, maxGen, maxGen, 1}, {1, maxGen - 1, maxGen - 1, 1}, {1, maxGen - 1, maxGen, 0},
		{maxGen - 1, 0, maxGen, 0}, {maxGen - 1, maxGen - 1, maxGen, 0}, {maxGen - 1, maxGen, maxGen, 1},
	} {
		l := at(x.cur, x.next)
		want(t, "Answered", l, answered(x.gen, 20, s, 10), answer{lane: behind(l, x.gen, x.own+10, 30, s), counter: x.own})
		want(t, "Answered, block 1", l, answered(x.gen, 0, s, 1), answer{lane: behind(l, x.gen, x.own+1, 1, s), counter: x.own})
	}
	for _, x := range []gens{
		{1, 0, 1}, {1, 0, 0}, {1, 0, -1}, {1, 5, 1}, {3, 5, 3}, {3, 5, 2}, {3, 5, 1}, {3, 5, 0}, {3, 5, math.MinInt}, {5, 3, 5}, {5, 3, 4}, {5, 3, 3}, {5, 3, 2},
		{3, 5, maxGen + 1}, {3, 5, maxGen + 2}, {3, 5, 1<<32 + 4}, {3, 5, math.MaxInt}, {3, maxGen, maxGen + 1}, {maxGen, 5, maxGen}, {maxGen, 5, maxGen + 1}, {maxGen, maxGen, maxGen}, {maxGen, 0, maxGen - 1}, {maxGen - 1, maxGen, maxGen + 1},
	} {
		want(t, "a generation that is not taken", at(x.cur, x.next), answered(x.gen, 20, s, 10), answer{})
	}
}

// P17.7, P17.8: the counter is any up to MaxCounter, whatever Ceil and SendCur are; the ceiling is above it, but never above MaxCounter + 1.
func TestAnsweredAndOpenedCounter(t *testing.T) {
	s := stampOf(6, 0)
	for _, x := range []struct {
		counter uint64
		block   int
		ceil    uint64
	}{
		{0, 1, 1}, {0, 10, 10}, {1, 10, 11}, {39, 10, 49}, {40, 10, 50}, {41, 10, 51}, {99, 1, 100}, {100, 1048576, 1048676}, {1 << 63, 10, 1<<63 + 10},
		{maxCounter - 10, 10, maxCounter}, {maxCounter - 9, 10, maxCounter + 1}, {maxCounter - 1, 1, maxCounter}, {maxCounter - 1, 10, maxCounter + 1}, {maxCounter, 1, maxCounter + 1}, {maxCounter, 1048576, maxCounter + 1},
	} {
		for _, l := range []api.Lane{at(3, 5), with(at(3, 5), func(l *api.Lane) { l.SendCur, l.Ceil = maxCounter+1, maxCounter+1 }), with(at(3, 5), func(l *api.Lane) { l.SendCur, l.Ceil = 0, 0 })} {
			block := uint64(x.block)
			want(t, "Answered, above Next", l, answered(6, x.counter, s, x.block), answer{lane: behind(l, 6, block, x.ceil, s)})
			want(t, "Answered, at Next", l, answered(5, x.counter, s, x.block), answer{lane: behind(l, 5, 1+block, x.ceil, s), counter: 1})
			wantLane(t, "Opened", l, opened(5, x.counter, x.block), behind(l, 5, 1+block, x.ceil, l.Seen))
		}
	}
	for _, block := range []int{1, 10, maxBlock} {
		want(t, "above MaxCounter", at(3, 5), answered(6, maxCounter+1, s, block), answer{})
		want(t, "above MaxCounter", at(3, 5), answered(5, maxCounter+1, s, block), answer{})
		wantLane(t, "above MaxCounter", at(3, 5), opened(5, maxCounter+1, block), api.Lane{})
	}
}

// P17.7: the stamp is one, and above the one that was seen.
func TestAnsweredStamp(t *testing.T) {
	stamps := edgeStamps()
	for i, seen := range stamps {
		l := with(at(3, 5), func(l *api.Lane) { l.Seen = seen })
		for j, s := range stamps {
			for _, gen := range []int{4, 6} {
				if j > i {
					own := uint64(6-gen) / 2
					want(t, "above", l, answered(gen, 20, s, 10), answer{lane: behind(l, gen, own+10, 30, s), counter: own})
				} else {
					want(t, "not above", l, answered(gen, 20, s, 10), answer{})
				}
			}
		}
		for _, s := range noStamps() {
			want(t, "no stamp", l, answered(4, 20, s, 10), answer{})
			want(t, "no stamp", l, answered(6, 20, s, 10), answer{})
		}
	}
	l := with(at(3, 5), func(l *api.Lane) { l.Seen = stampOf(5, 7) })
	want(t, "one below", l, answered(6, 20, stampOf(5, 6), 10), answer{})
	want(t, "the same", l, answered(6, 20, stampOf(5, 7), 10), answer{})
	want(t, "one above", l, answered(6, 20, stampOf(5, 8), 10), answer{lane: behind(l, 6, 10, 30, stampOf(5, 8))})
	want(t, "a second less", l, answered(6, 20, stampOf(4, maxNano), 10), answer{})
	want(t, "a second more", l, answered(6, 20, stampOf(6, 0), 10), answer{lane: behind(l, 6, 10, 30, stampOf(6, 0))})
}

// P17.7, P17.8: blocks at their bounds, and those that may not be.
func TestAnsweredAndOpenedBlock(t *testing.T) {
	s, l := stampOf(6, 0), at(3, 5)
	for _, block := range []int{1, 2, 10, 1048575, 1048576} {
		b := uint64(block)
		want(t, "a block", l, answered(6, 20, s, block), answer{lane: behind(l, 6, b, 20+b, s)})
		want(t, "a block", l, answered(4, 20, s, block), answer{lane: behind(l, 4, 1+b, 20+b, s), counter: 1})
		wantLane(t, "a block", l, opened(4, 20, block), behind(l, 4, 1+b, 20+b, l.Seen))
	}
	for _, block := range []int{0, -1, -10, math.MinInt, 1048577, 1<<32 + 1, math.MaxInt} {
		want(t, "no block", l, answered(6, 20, s, block), answer{})
		want(t, "no block", l, answered(4, 20, s, block), answer{})
		wantLane(t, "no block", l, opened(4, 20, block), api.Lane{})
	}
}

// P17.8: gen is above Cur, and at most Next; Seen and Next stay.
func TestOpenedGen(t *testing.T) {
	for _, x := range []gens{{1, 2, 2}, {1, 3, 2}, {1, 3, 3}, {3, 5, 4}, {3, 5, 5}, {4, 5, 5}, {1, maxGen, 2}, {1, maxGen, maxGen - 1}, {1, maxGen, maxGen}, {maxGen - 1, maxGen, maxGen}, {maxGen - 2, maxGen - 1, maxGen - 1}} {
		l := at(x.cur, x.next)
		wantLane(t, "Opened", l, opened(x.gen, 20, 10), behind(l, x.gen, 11, 30, l.Seen))
		wantLane(t, "Opened, block 1", l, opened(x.gen, 0, 1), behind(l, x.gen, 2, 1, l.Seen))
	}
	for _, x := range []gens{
		{1, 0, 1}, {1, 0, 2}, {1, 0, 0}, {1, 1, 1}, {1, 1, 2}, {3, 5, 3}, {3, 5, 2}, {3, 5, 0}, {3, 5, -1}, {3, 5, math.MinInt}, {3, 5, 6}, {3, 5, 7}, {3, 5, maxGen}, {3, 5, maxGen + 1}, {3, 5, 1<<32 + 4}, {3, 5, math.MaxInt},
		{5, 5, 5}, {5, 5, 6}, {5, 3, 3}, {5, 3, 4}, {5, 3, 5}, {5, 3, 6}, {maxGen, maxGen, maxGen}, {maxGen, maxGen, maxGen + 1}, {maxGen - 1, maxGen, maxGen + 1}, {maxGen, 0, maxGen}, {1, maxGen - 1, maxGen},
	} {
		wantLane(t, "a generation that is not taken", at(x.cur, x.next), opened(x.gen, 20, 10), api.Lane{})
	}
}
