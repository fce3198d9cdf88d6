package lane_test

import (
	"fmt"
	"math"
	"testing"

	"culvert/api"
	"culvert/lane"
)

func wantValid(t *testing.T, what string, l api.Lane, want bool) {
	t.Helper()
	if got := lane.Valid(l); got != want {
		t.Errorf("%s: Valid(%s) = %v, want %v", what, told(l), got, want)
	}
}

// P17.1: each field by itself, at its bounds and beside them.
func TestValidByField(t *testing.T) {
	wantValid(t, "some lane", someLane(), true)
	wantValid(t, "the zero lane", api.Lane{}, false)
	for n := range 70 {
		wantValid(t, "Key", with(someLane(), func(l *api.Lane) { l.Key = make([]byte, n) }), n == 32)
	}
	wantValid(t, "no Key", with(someLane(), func(l *api.Lane) { l.Key = nil }), false)
	wantValid(t, "a long Key", with(someLane(), func(l *api.Lane) { l.Key = make([]byte, 1<<16+32) }), false)
	for side, ok := range map[int]bool{-1: false, 0: true, 1: true, 2: false, 256: false, 1 << 32: false, math.MinInt: false, math.MaxInt: false} {
		wantValid(t, "Side", with(someLane(), func(l *api.Lane) { l.Side = side }), ok)
	}
	for cur, ok := range map[int]bool{math.MinInt: false, -1: false, 0: false, 1: true, 2: true, 2147483646: true, 2147483647: true, 2147483648: false, 1<<32 + 1: false, math.MaxInt: false} {
		wantValid(t, "Cur", with(someLane(), func(l *api.Lane) { l.Cur = cur }), ok)
	}
	for next, ok := range map[int]bool{math.MinInt: false, -1: false, 0: true, 1: true, 2147483646: true, 2147483647: true, 2147483648: false, 1 << 32: false, math.MaxInt: false} {
		wantValid(t, "Next", with(someLane(), func(l *api.Lane) { l.Next = next }), ok)
	}
	for _, s := range edgeStamps() {
		wantValid(t, "Seen", with(someLane(), func(l *api.Lane) { l.Seen = s }), true)
	}
	for _, s := range noStamps() {
		wantValid(t, "Seen", with(someLane(), func(l *api.Lane) { l.Seen = s }), false)
	}
	for _, x := range edgeCounters() {
		for _, y := range edgeCounters() {
			wantValid(t, "SendCur, Ceil", with(someLane(), func(l *api.Lane) { l.SendCur, l.Ceil = x, y }), true)
		}
	}
}

// P17.1: all fields together: nothing that one of them is makes up for another one, whatever Cur and Next are to one another.
func TestValidOfAll(t *testing.T) {
	seens := append(edgeStamps(), noStamps()...)
	for _, k := range edgeKeys() {
		for _, side := range edgeSides() {
			for _, cur := range edgeGens() {
				for _, next := range edgeGens() {
					l := api.Lane{Key: k, Side: side, Cur: cur, Next: next, Seen: seens[(cur&15+next&7+side&3)%len(seens)]}
					wantValid(t, "all fields", l, len(plainFaults(l)) == 0)
				}
			}
		}
	}
}

// oddLanes may not be so, each by one of its fields alone, whatever the others of l are.
func oddLanes(l api.Lane) map[string][]api.Lane {
	out := map[string][]api.Lane{}
	add := func(field string, change func(l *api.Lane)) {
		if odd := with(l, change); len(plainFaults(odd)) == 1 {
			out[field] = append(out[field], odd)
		}
	}
	for _, k := range edgeKeys() {
		add("Key", func(l *api.Lane) { l.Key = k })
	}
	for _, side := range edgeSides() {
		add("Side", func(l *api.Lane) { l.Side = side })
	}
	for _, gen := range edgeGens() {
		add("Cur", func(l *api.Lane) { l.Cur = gen })
		add("Next", func(l *api.Lane) { l.Next = gen })
	}
	for _, s := range noStamps() {
		add("Seen", func(l *api.Lane) { l.Seen = s })
	}
	return out
}

// goodCalls are calls that some lane is not refused at, one of each kind, and some more.
func goodCalls(t *testing.T, l api.Lane) []call {
	t.Helper()
	out := []call{
		again(), propose(), reserve(100, 10), reserve(maxCounter, 1), raise(40, 10), raise(maxCounter, maxBlock),
		answered(4, 0, stampOf(6, 0), 1), answered(5, 9, stampOf(5, 8), 10), answered(6, maxCounter, stampOf(maxSec, maxNano), 10), answered(maxGen, 9, stampOf(6, 0), 10),
		opened(4, 0, 1), opened(5, 9, 10), opened(5, maxCounter, maxBlock),
	}
	for _, c := range out {
		if a := c.do(l); sameLane(a.lane, api.Lane{}) || a.err != api.OK {
			t.Fatalf("%+v of %s is refused: %v", c, told(l), a)
		}
	}
	return out
}

// P17.1: each call handed a lane that may not be, by each of its fields alone: zero values and ErrArg, or zero values.
func TestLanesThatMayNotBe(t *testing.T) {
	for _, c := range goodCalls(t, someLane()) {
		odd := oddLanes(someLane())
		for _, field := range []string{"Key", "Side", "Cur", "Next", "Seen"} {
			if len(odd[field]) < 4 {
				t.Fatalf("only %d lanes whose %s may not be", len(odd[field]), field)
			}
			for _, l := range odd[field] {
				wantRefused(t, field, l, c, api.ErrArg)
			}
		}
		wantRefused(t, "the zero lane", api.Lane{}, c, api.ErrArg)
	}
}

// P17.1: where what is asked hangs on the lane's own fields: a call that such a lane would be let by.
func TestCallsThatFitOddLanes(t *testing.T) {
	for field, l := range oddLanes(someLane()) {
		for _, odd := range l {
			for _, gen := range []int{odd.Cur + 1, odd.Next, odd.Next + 1, odd.Cur, maxGen} {
				for _, s := range []api.Stamp{{}, {Nano: 1}, {Sec: 5, Nano: 8}, {Sec: maxSec, Nano: maxNano}} {
					wantRefused(t, field, odd, answered(gen, 0, s, 10), api.ErrArg)
				}
				wantRefused(t, field, odd, opened(gen, 0, 10), api.ErrArg)
			}
			wantRefused(t, field, odd, reserve(odd.SendCur, 10), api.ErrArg)
			wantRefused(t, field, odd, raise(odd.Ceil, 10), api.ErrArg)
		}
	}
}

// P17.1, P0.2: of a lane that may not be ErrArg is told, also if it has no generation left; zero values also if all else may not be either.
func TestMayNotBeAndMore(t *testing.T) {
	last := with(someLane(), func(l *api.Lane) { l.Cur, l.Next = maxGen, maxGen })
	for field, l := range oddLanes(last) {
		for _, odd := range l {
			want(t, field, odd, again(), answer{err: api.ErrArg})
			want(t, field, odd, propose(), answer{err: api.ErrArg})
		}
	}
	for field, l := range oddLanes(someLane()) {
		for i, odd := range l {
			what := fmt.Sprint(field, i)
			wantRefused(t, what, odd, reserve(0, 0), 0)
			wantRefused(t, what, odd, raise(0, 0), 0)
			wantRefused(t, what, odd, answered(0, math.MaxUint64, stampOf(-1, 0), 0), 0)
			wantRefused(t, what, odd, opened(0, math.MaxUint64, -1), 0)
		}
	}
}

// P17.1: no call looks at SendCur and Ceil but where it is said so.
func TestAnyNumbers(t *testing.T) {
	for _, x := range edgeCounters() {
		l := with(someLane(), func(l *api.Lane) { l.SendCur, l.Ceil = x, math.MaxUint64-x })
		for _, c := range []call{again(), propose(), answered(4, 9, stampOf(6, 0), 10), answered(6, 9, stampOf(6, 0), 10), opened(5, 9, 10)} {
			wantPlain(t, "any numbers", l, c)
			if a := c.do(l); len(a.lane.Key) != 32 {
				t.Errorf("%+v of %s is refused", c, told(l))
			}
		}
		lowCeil := with(l, func(l *api.Lane) { l.Ceil = 40 })
		wantLane(t, "any SendCur", lowCeil, raise(41, 10), with(lowCeil, func(l *api.Lane) { l.Ceil = 51 }))
		lowSend := with(l, func(l *api.Lane) { l.SendCur = 40 })
		wantLane(t, "any Ceil", lowSend, reserve(41, 10), with(lowSend, func(l *api.Lane) { l.SendCur = 51 }))
	}
}
