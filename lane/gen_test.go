package lane_test

import (
	"testing"

	"culvert/api"
)

// gens are a Cur and a Next, with a generation that a call of theirs is handed or gives.
type gens struct{ cur, next, gen int }

// someGens have what is one above both; 0, if there is none left.
func someGens() []gens {
	return []gens{
		{1, 0, 2}, {1, 1, 2}, {1, 2, 3}, {2, 1, 3}, {3, 5, 6}, {5, 3, 6}, {5, 5, 6}, {7, 0, 8},
		{1, 2147483645, 2147483646}, {1, 2147483646, 2147483647}, {2147483646, 0, 2147483647}, {2147483646, 2147483645, 2147483647}, {2147483646, 2147483646, 2147483647}, {2147483645, 2147483646, 2147483647}, {65535, 65536, 65537},
		{2147483647, 0, 0}, {1, 2147483647, 0}, {2147483647, 2147483647, 0}, {2147483646, 2147483647, 0}, {2147483647, 2147483646, 0}, {2147483647, 1, 0}, {5, 2147483647, 0},
	}
}

// lanesOf have those generations, and any of the other fields.
func lanesOf(g gens) []api.Lane {
	return []api.Lane{
		{Key: key(1), Cur: g.cur, Next: g.next},
		{Key: key(2), Side: 1, Cur: g.cur, Next: g.next, SendCur: 100, Ceil: 40, Seen: stampOf(5, 7)},
		{Key: key(3), Side: 1, Cur: g.cur, Next: g.next, SendCur: maxCounter + 1, Ceil: maxCounter + 1, Seen: stampOf(maxSec, maxNano)},
		{Key: key(4), Cur: g.cur, Next: g.next, SendCur: 1, Ceil: maxCounter},
	}
}

// P17.3: Cur is one above the greater one of Cur and Next, SendCur and Ceil are 0; all else stays. ErrGen, if there is none left.
func TestAgain(t *testing.T) {
	for _, g := range someGens() {
		for _, l := range lanesOf(g) {
			if g.gen == 0 {
				want(t, "none left", l, again(), answer{err: api.ErrGen})
				continue
			}
			want(t, "Again", l, again(), answer{lane: api.Lane{Key: l.Key, Side: l.Side, Cur: g.gen, Next: g.next, Seen: l.Seen}})
		}
	}
}

// P17.6: Next is one above the greater one of Cur and Next, and is told; all else stays. ErrGen and 0, if there is none left.
func TestPropose(t *testing.T) {
	for _, g := range someGens() {
		for _, l := range lanesOf(g) {
			if g.gen == 0 {
				want(t, "none left", l, propose(), answer{err: api.ErrGen})
				continue
			}
			is := api.Lane{Key: l.Key, Side: l.Side, Cur: g.cur, Next: g.gen, SendCur: l.SendCur, Ceil: l.Ceil, Seen: l.Seen}
			want(t, "Propose", l, propose(), answer{lane: is, gen: g.gen})
		}
	}
}

// P17.3, P17.6: the last generations, one behind the other, by either call, until none is left.
func TestLastGenerations(t *testing.T) {
	for choice := range 8 {
		l := api.Lane{Key: key(1), Side: 1, Cur: 7, Next: maxGen - 3, SendCur: 5, Ceil: 6, Seen: stampOf(1, 2)}
		for step := range 3 {
			c := propose()
			if choice>>step&1 == 1 {
				c = again()
			}
			a := c.do(l)
			if a.err != api.OK || max(a.lane.Cur, a.lane.Next) != maxGen-2+step {
				t.Fatalf("%+v of %s = %v", c, told(l), a)
			}
			l = a.lane
		}
		want(t, "none left", l, again(), answer{err: api.ErrGen})
		want(t, "none left", l, propose(), answer{err: api.ErrGen})
	}
}
