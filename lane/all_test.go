package lane_test

import (
	"slices"
	"testing"

	"culvert/api"
)

// validLanes are all lanes of some generations, counters and stamps.
func validLanes() []api.Lane {
	var out []api.Lane
	for _, cur := range []int{1, 3, maxGen - 1, maxGen} {
		for _, next := range []int{0, 1, 3, 4, 5, maxGen - 1, maxGen} {
			for i, sendCur := range []uint64{0, 10, maxCounter - 9, maxCounter, maxCounter + 1} {
				for j, ceil := range []uint64{0, 11, maxCounter - 8, maxCounter, maxCounter + 1} {
					seen := edgeStamps()[(i*5+j+cur+next)%10]
					out = append(out, api.Lane{Key: key(i*5 + j), Side: (i + j) % 2, Cur: cur, Next: next, SendCur: sendCur, Ceil: ceil, Seen: seen})
				}
			}
		}
	}
	return out
}

// edgeCalls are calls of all kinds, at all edges; of Answered, which has the most of them, some. (17 divides none of the lists' lengths: so each two of their things come together.)
func edgeCalls() []call {
	out := []call{again(), propose()}
	counters := []uint64{0, 1, 9, 10, 11, 12, maxCounter - 10, maxCounter - 9, maxCounter - 8, maxCounter - 7, maxCounter - 1, maxCounter, maxCounter + 1}
	gens := []int{-1, 0, 1, 2, 3, 4, 5, 6, maxGen - 1, maxGen, maxGen + 1}
	stamps := append(edgeStamps(), noStamps()...)
	n := 0
	for _, block := range []int{-1, 0, 1, 10, maxBlock, maxBlock + 1} {
		for _, counter := range counters {
			out = append(out, reserve(counter, block), raise(counter, block))
			for _, gen := range gens {
				out = append(out, opened(gen, counter, block))
				for _, s := range stamps {
					if n++; n%17 == 0 {
						out = append(out, answered(gen, counter, s, block))
					}
				}
			}
		}
	}
	return out
}

// alone counts how often a call is refused by one thing and by nothing else, and how often by nothing.
type alone map[string]int

func (a alone) see(c call, l api.Lane) {
	switch why := c.refusals(l); len(why) {
	case 0:
		a[c.kind]++
	case 1:
		a[c.kind+": "+why[0]]++
	}
}

// wantAll: all that a call may be refused by has been tried alone, and each call without.
func (a alone) wantAll(t *testing.T, most int) {
	t.Helper()
	for _, why := range []string{
		"Again", "Again: no generation left", "Propose", "Propose: no generation left",
		"Reserve", "Reserve: block", "Reserve: counter above MaxCounter", "Reserve: at below SendCur",
		"Raise", "Raise: block", "Raise: counter above MaxCounter", "Raise: counter below Ceil",
		"Answered", "Answered: block", "Answered: counter above MaxCounter", "Answered: gen not above Cur", "Answered: gen above MaxGen", "Answered: no stamp", "Answered: stamp not above Seen",
		"Opened", "Opened: block", "Opened: counter above MaxCounter", "Opened: gen not above Cur", "Opened: gen above Next",
	} {
		if a[why] < most {
			t.Errorf("%s: tried only %d times", why, a[why])
		}
	}
}

// P17.3, P17.5 to P17.9: all calls of all lanes, at the edges, against their plain forms.
func TestAllEdges(t *testing.T) {
	seen := alone{}
	for _, l := range validLanes() {
		for _, c := range edgeCalls() {
			wantPlain(t, "edges", l, c)
			seen.see(c, l)
		}
	}
	seen.wantAll(t, 100)
}

// P17.3, P17.5 to P17.9: any calls of any lanes.
func TestAnyCalls(t *testing.T) {
	s, seen := newSampler(2), alone{}
	for range 400000 {
		l := s.lane()
		c := s.call(l)
		wantPlain(t, "any", l, c)
		seen.see(c, l)
	}
	seen.wantAll(t, 100)
}

// P17.1, P0.1: any calls of any lanes that may not be.
func TestAnyCallsOfOddLanes(t *testing.T) {
	s, fields := newSampler(3), map[string]int{}
	for range 100000 {
		l := s.lane()
		for field := range 5 {
			if s.IntN(3) > 0 {
				continue
			}
			switch field {
			case 0:
				l.Key = pick(s, edgeKeys())
			case 1:
				l.Side = pick(s, edgeSides())
			case 2:
				l.Cur = pick(s, edgeGens())
			case 3:
				l.Next = pick(s, edgeGens())
			case 4:
				l.Seen = pick(s, noStamps())
			}
		}
		wantPlain(t, "any", l, s.call(l))
		wantValid(t, "any", l, len(plainFaults(l)) == 0)
		if faults := plainFaults(l); len(faults) == 1 {
			fields[faults[0]]++
		}
	}
	for _, field := range []string{"Key", "Side", "Cur", "Next", "Seen"} {
		if fields[field] < 1000 {
			t.Errorf("%s: only %d lanes that may not be by it alone", field, fields[field])
		}
	}
}

// changes are the fields that a call is said to change; all others stay.
func changes(kind string) []string {
	return map[string][]string{
		"Again": {"Cur", "SendCur", "Ceil"}, "Propose": {"Next"}, "Reserve": {"SendCur"}, "Raise": {"Ceil"},
		"Answered": {"Cur", "SendCur", "Ceil", "Seen"}, "Opened": {"Cur", "SendCur", "Ceil"},
	}[kind]
}

// P17.3, P17.5 to P17.9: what a call leaves as it was, each field by itself, at any lane that the call is not refused at.
func TestLeftAsItWas(t *testing.T) {
	s, done := newSampler(4), map[string]int{}
	for range 100000 {
		l := s.lane()
		c := s.call(l)
		a := c.do(l)
		if len(c.refusals(l)) > 0 {
			if !same(a, answer{err: a.err}) {
				t.Fatalf("%+v of %s is refused, and answers %v", c, told(l), a)
			}
			continue
		}
		done[c.kind]++
		for field, stays := range map[string]bool{
			"Key": slices.Equal(a.lane.Key, l.Key), "Side": a.lane.Side == l.Side, "Cur": a.lane.Cur == l.Cur, "Next": a.lane.Next == l.Next,
			"SendCur": a.lane.SendCur == l.SendCur, "Ceil": a.lane.Ceil == l.Ceil, "Seen": a.lane.Seen == l.Seen,
		} {
			if !stays && !slices.Contains(changes(c.kind), field) {
				t.Fatalf("%+v of %s changes %s: %v", c, told(l), field, a)
			}
		}
		if c.kind != "Propose" && a.gen != 0 || c.kind != "Answered" && a.counter != 0 || a.err != api.OK {
			t.Fatalf("%+v of %s = %v", c, told(l), a)
		}
	}
	for _, kind := range kinds() {
		if done[kind] < 500 {
			t.Errorf("%s: done only %d times", kind, done[kind])
		}
	}
}
