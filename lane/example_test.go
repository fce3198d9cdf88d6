package lane_test

import (
	"bytes"
	"testing"

	"culvert/api"
	"culvert/lane"
)

// The examples of the chapter, one behind the other; the block is 10.
func TestExamples(t *testing.T) {
	k := bytes.Repeat([]byte{7}, 32)
	is := func(side, cur, next int, sendCur, ceil uint64, sec int) api.Lane {
		return api.Lane{Key: k, Side: side, Cur: cur, Next: next, SendCur: sendCur, Ceil: ceil, Seen: api.Stamp{Sec: sec}}
	}
	five, six := stampOf(5, 0), stampOf(6, 0)

	a := is(0, 1, 0, 0, 0, 0)
	wantNew(t, "a", k, 0, a)
	wantNew(t, "without the last byte", k[:31], 0, api.Lane{})
	wantNew(t, "the side 2", k, 2, api.Lane{})

	b := is(0, 1, 0, 10, 0, 0)
	wantLane(t, "b", a, reserve(0, 10), b)
	wantLane(t, "at SendCur", b, reserve(10, 10), is(0, 1, 0, 20, 0, 0))
	wantLane(t, "below SendCur", b, reserve(9, 10), api.Lane{})
	wantLane(t, "above SendCur", b, reserve(25, 10), is(0, 1, 0, 35, 0, 0))

	c, d := is(0, 1, 2, 10, 0, 0), is(0, 1, 3, 10, 0, 0)
	want(t, "c", b, propose(), answer{lane: c, gen: 2})
	want(t, "d", c, propose(), answer{lane: d, gen: 3})

	e := is(0, 2, 3, 11, 10, 0)
	wantLane(t, "e", d, opened(2, 0, 10), e)
	wantLane(t, "above Next", d, opened(4, 0, 10), api.Lane{})
	wantLane(t, "at Cur", e, opened(2, 0, 10), api.Lane{})

	f, g := is(0, 3, 3, 11, 10, 5), is(0, 4, 3, 10, 17, 6)
	want(t, "f", e, answered(3, 0, five, 10), answer{lane: f, counter: 1})
	want(t, "the stamp that was seen", f, answered(4, 7, five, 10), answer{})
	want(t, "g", f, answered(4, 7, six, 10), answer{lane: g})

	wantLane(t, "below Ceil", g, raise(16, 10), api.Lane{})
	wantLane(t, "at Ceil", g, raise(17, 10), is(0, 4, 3, 10, 27, 6))
	wantLane(t, "above Ceil", g, raise(100, 10), is(0, 4, 3, 10, 110, 6))
	wantLane(t, "once more", g, again(), is(0, 5, 3, 0, 0, 6))

	wantUp(t, 3, 1, 4)
	wantUp(t, 18446744073709551614, 10, 18446744073709551615)
	wantUp(t, 18446744073709551615, 1, 18446744073709551615)
	wantUp(t, 0, 0, 0)
	wantUp(t, 0, 1048577, 0)

	for _, l := range []api.Lane{is(0, 2147483647, 0, 0, 0, 0), is(0, 1, 2147483647, 0, 0, 0)} {
		want(t, "no generation left", l, again(), answer{err: api.ErrGen})
		want(t, "no generation left", l, propose(), answer{err: api.ErrGen})
	}
	if api.ErrGen != 168 || api.ErrArg != 2 || !lane.Valid(g) {
		t.Errorf("ErrGen is %d, ErrArg %d, g %v", api.ErrGen, api.ErrArg, lane.Valid(g))
	}
}
