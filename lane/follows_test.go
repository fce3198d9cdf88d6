package lane_test

import (
	"fmt"
	"maps"
	"slices"
	"testing"

	"culvert/api"
	"culvert/lane"
)

// triple is a generation with a counter of it. (A history is of one key and one side.)
type triple struct {
	gen     int
	counter uint64
}

// life is a node that uses a lane as P17.12 and P17.13 let it, and knows all that has been. It asks nothing of the lane but what they name.
type life struct {
	lane     api.Lane
	at       uint64         // the next counter of Cur
	used     map[triple]int // what it has used, and by which step
	accepted map[uint64]int // the counters of Cur that it has accepted
	gave     int            // the greatest generation that Propose gave
	steps    []string
	wrong    string // the first thing that may not be
}

func newLife(side int) *life {
	return &life{lane: lane.New(key(5), side), used: map[triple]int{}, accepted: map[uint64]int{}}
}

func (n *life) copied() *life {
	out := *n
	out.lane.Key, out.used, out.accepted, out.steps = slices.Clone(n.lane.Key), maps.Clone(n.used), maps.Clone(n.accepted), slices.Clone(n.steps)
	return &out
}

func (n *life) tell(what string) {
	if n.wrong == "" {
		n.wrong = what
	}
}

func (n *life) want(t *testing.T) {
	t.Helper()
	if n.wrong != "" {
		t.Fatalf("%s; the lane is %s; the last steps: %v", n.wrong, told(n.lane), n.steps[max(0, len(n.steps)-30):])
	}
}

func (n *life) use(gen int, counter uint64) {
	x := triple{gen, counter}
	if by, twice := n.used[x]; twice {
		n.tell(fmt.Sprintf("the counter %d of the generation %d is used twice, by the steps %d and %d", counter, gen, by, len(n.steps)))
	}
	if counter > maxCounter || gen < 1 || gen > maxGen {
		n.tell(fmt.Sprintf("%v is used, which makes no nonce", x))
	}
	n.used[x] = len(n.steps)
}

// send uses up to so many counters of Cur, one behind the other.
func (n *life) send(most int) {
	n.steps = append(n.steps, fmt.Sprint("send ", most))
	for range most {
		if n.at >= n.lane.SendCur {
			return
		}
		n.use(n.lane.Cur, n.at)
		n.at++
	}
}

// skip goes on at SendCur, as a node does that has lost its power.
func (n *life) skip() {
	n.steps = append(n.steps, "skip")
	n.at = n.lane.SendCur
}

// accept takes a counter of the other side, if it is below Ceil.
func (n *life) accept(counter uint64) {
	if counter < n.lane.Ceil {
		n.steps = append(n.steps, fmt.Sprint("accept ", counter))
		n.accepted[counter]++
	}
}

// call does a call, and tells whether it was done.
func (n *life) call(c call) bool {
	was, a := n.lane, c.do(n.lane)
	if sameLane(a.lane, api.Lane{}) || a.err != api.OK {
		if !same(a, answer{err: a.err}) {
			n.tell(fmt.Sprintf("%+v is refused, and answers %v", c, a))
		}
		return false
	}
	n.steps = append(n.steps, fmt.Sprintf("%+v", c))
	n.lane = a.lane
	n.rises(c.kind, was, a)
	switch c.kind {
	case "Again":
		n.at, n.accepted = 0, map[uint64]int{}
	case "Propose":
		n.use(a.gen, 0)
		n.gave = a.gen
	case "Answered":
		n.use(n.lane.Cur, a.counter)
		n.at, n.accepted = a.counter+1, map[uint64]int{c.counter: 1}
	case "Opened":
		n.at, n.accepted = 1, map[uint64]int{c.counter: 1}
	case "Raise":
		n.accepted[c.counter]++
	}
	n.below()
	return true
}

// below: every counter of Cur that was accepted is below Ceil.
func (n *life) below() {
	for counter := range n.accepted {
		if counter >= n.lane.Ceil {
			n.tell(fmt.Sprintf("the counter %d was accepted, and is not below Ceil", counter))
		}
	}
}

// rises: what P17.11 says of one call.
func (n *life) rises(kind string, was api.Lane, a answer) {
	is := a.lane
	newCur := kind == "Again" || kind == "Answered" || kind == "Opened"
	switch {
	case len(plainFaults(is)) > 0 || !lane.Valid(is):
		n.tell("the lane may not be so")
	case !slices.Equal(is.Key, was.Key) || is.Side != was.Side:
		n.tell("the key or the side has changed")
	case is.Cur < was.Cur || is.Next < was.Next || place(is.Seen).Cmp(place(was.Seen)) < 0:
		n.tell("Cur, Next or Seen has fallen")
	case newCur && is.Cur <= was.Cur:
		n.tell("Cur has not risen")
	case kind == "Propose" && is.Next <= was.Next:
		n.tell("Next has not risen")
	case kind == "Answered" && place(is.Seen).Cmp(place(was.Seen)) <= 0:
		n.tell("Seen has not risen")
	case is.Cur == was.Cur && (is.SendCur < was.SendCur || is.Ceil < was.Ceil):
		n.tell("SendCur or Ceil has fallen")
	case kind == "Propose" && (a.gen <= was.Cur || a.gen <= is.Cur || a.gen <= n.gave):
		n.tell(fmt.Sprintf("Propose gives %d, and has given %d", a.gen, n.gave))
	}
}

// near is a call that is likely to be done: with numbers just beside the lane's.
func (s sampler) near(l api.Lane) call {
	counter, block := uint64(s.IntN(4)), 1+s.IntN(4)
	seen := l.Seen
	switch s.IntN(3) {
	case 0:
		seen.Sec++
	case 1:
		seen.Nano++
	}
	switch s.IntN(12) {
	case 0:
		return again()
	case 1, 2:
		return propose()
	case 3, 4, 5:
		return reserve(l.SendCur+counter, block)
	case 6, 7:
		return raise(l.Ceil+counter, block)
	case 8:
		return answered(l.Cur+1+s.IntN(4), counter, seen, block)
	case 9:
		return answered(max(l.Cur, l.Next)+s.IntN(3), counter, seen, block)
	}
	return opened(l.Cur+1+s.IntN(3), counter, block)
}

// step does one thing that a node may do, or a call that it is refused.
func (n *life) step(s sampler, done map[string]int) {
	switch s.IntN(8) {
	case 0:
		n.skip()
		done["skip"]++
	case 1, 2:
		n.send(1 + s.IntN(5))
		done["send"]++
	case 3:
		if n.lane.Ceil > 0 {
			n.accept(n.lane.Ceil - 1 - min(n.lane.Ceil-1, uint64(s.IntN(9))))
			n.accept(s.Uint64N(n.lane.Ceil))
			done["accept"]++
		}
	case 4:
		if c := s.call(n.lane); c.gen < 1<<30 && c.stamp.Sec < 1<<60 { // not yet: a history that is at its end has no more to tell
			n.did(c, done)
		}
	default:
		n.did(s.near(n.lane), done)
	}
}

func (n *life) did(c call, done map[string]int) {
	if n.call(c) {
		done[c.kind]++
	} else {
		done["refused "+c.kind]++
	}
}

func wantDone(t *testing.T, done map[string]int, most int) {
	t.Helper()
	for _, kind := range append(kinds(), "send", "skip", "accept") {
		if done[kind] < most {
			t.Errorf("%s: done only %d times", kind, done[kind])
		}
	}
}

// P17.11 to P17.13: long histories of calls, of any that may be done and of others, with uses, skips and counters that are accepted at any time.
func TestHistories(t *testing.T) {
	s, done := newSampler(6), map[string]int{}
	for i := range 600 {
		n := newLife(i % 2)
		for range 400 {
			n.step(s, done)
			n.want(t)
		}
	}
	wantDone(t, done, 2000)
}

// P17.11 to P17.13: the same at the ends: of the generations, of the counters, of the stamps.
func TestHistoriesAtTheEnd(t *testing.T) {
	s, done, last := newSampler(7), map[string]int{}, map[string]int{}
	for i := range 600 {
		n := newLife(i % 2)
		n.did(answered(maxGen-s.IntN(40), 3, stampOf(maxSec, maxNano-s.IntN(40)), 1+s.IntN(5)), done)
		for range 100 {
			switch s.IntN(12) {
			case 0:
				n.did(reserve(maxCounter-uint64(s.IntN(30)), 1+s.IntN(12)), done)
			case 1:
				n.did(raise(maxCounter-uint64(s.IntN(30)), 1+s.IntN(12)), done)
			case 2:
				n.did(s.call(n.lane), done)
			default:
				n.step(s, done)
			}
			n.want(t)
		}
		for what, is := range map[string]bool{"gen": max(n.lane.Cur, n.lane.Next) == maxGen, "SendCur": n.lane.SendCur == maxCounter+1, "Ceil": n.lane.Ceil == maxCounter+1, "Seen": n.lane.Seen == stampOf(maxSec, maxNano)} {
			if is {
				last[what]++
			}
		}
	}
	wantDone(t, done, 300)
	for _, what := range []string{"gen", "SendCur", "Ceil", "Seen"} {
		if last[what] < 20 {
			t.Errorf("%s: only %d histories have come to its end", what, last[what])
		}
	}
}

// moves are all that a node may do next, of small numbers: whatever a lane is for, it is met by some of them.
func moves(l api.Lane) []func(n *life) {
	var out []func(n *life)
	seen := stampOf(l.Seen.Sec+1, 0)
	for _, c := range []call{
		again(), propose(), reserve(l.SendCur, 1), reserve(l.SendCur+1, 2), raise(l.Ceil, 1), raise(l.Ceil+1, 2),
		answered(l.Cur+1, 0, seen, 1), answered(l.Cur+2, 1, seen, 2), answered(l.Next, 0, seen, 1), answered(l.Next+1, 0, seen, 1), opened(l.Cur+1, 0, 1), opened(l.Next, 1, 2),
		reserve(l.SendCur-1, 1), raise(l.Ceil-1, 1), answered(l.Cur, 0, seen, 1), opened(l.Cur, 0, 1), opened(l.Next+1, 0, 1), answered(l.Cur+1, 0, l.Seen, 1), reserve(l.SendCur, 0), raise(l.Ceil, -1), // all of these are refused
	} {
		out = append(out, func(n *life) { n.call(c) })
	}
	return append(out,
		func(n *life) { n.skip() },
		func(n *life) { n.send(1) },
		func(n *life) { n.send(9) },
		func(n *life) {
			for c := range n.lane.Ceil {
				n.accept(c)
			}
		},
	)
}

// P17.11 to P17.13: all histories of up to five moves; behind each of them all that may be used is used, at once, behind a skip, and behind one reservation more.
func TestAllShortHistories(t *testing.T) {
	count := 0
	var walk func(n *life, left int)
	walk = func(n *life, left int) {
		n.want(t)
		if left == 0 {
			count++
			n.send(9)
			n.call(reserve(n.lane.SendCur, 2))
			n.skip()
			n.call(reserve(n.lane.SendCur, 2))
			n.send(9)
			n.want(t)
			return
		}
		for _, move := range moves(n.lane) {
			next := n.copied()
			steps := len(next.steps)
			move(next)
			if len(next.steps) > steps || next.wrong != "" { // a refused call leaves all as it was
				walk(next, left-1)
			}
		}
	}
	for left := range 6 {
		walk(newLife(0), left)
	}
	if count < 100000 {
		t.Errorf("only %d histories", count)
	}
}

// P17.12: what would be used twice, if one of the rules were not: each of them by a history of its own, used as far as it goes.
func TestNoTripleTwice(t *testing.T) {
	s := func(sec int) api.Stamp { return stampOf(sec, 0) }
	for what, l := range map[string][]call{
		"proposed, then answered with it":           {propose(), answered(2, 0, s(1), 3)},
		"proposed, then answered with an elder one": {propose(), propose(), propose(), answered(3, 0, s(1), 3), answered(4, 0, s(2), 3)},
		"proposed, then opened":                     {propose(), opened(2, 0, 3)},
		"proposed, then opened, an elder one":       {propose(), propose(), opened(2, 0, 3), opened(3, 0, 3)},
		"proposed, then given again":                {propose(), propose(), again(), reserve(0, 3)},
		"answered, then proposed":                   {answered(5, 0, s(1), 3), propose(), opened(6, 0, 3)},
		"answered above Next, then proposed":        {propose(), answered(3, 0, s(1), 3), propose(), answered(4, 0, s(2), 3)},
		"given again, then proposed":                {again(), reserve(0, 3), propose(), answered(3, 0, s(1), 3)},
		"given again, then answered":                {propose(), again(), reserve(0, 3), answered(4, 0, s(1), 3), again(), reserve(0, 3)},
		"reserved":                                  {reserve(0, 3), reserve(3, 3), reserve(9, 3), reserve(8, 3), reserve(12, 1)},
		"reserved behind an answer":                 {answered(2, 0, s(1), 1), reserve(1, 1), reserve(2, 1), propose(), answered(3, 0, s(2), 1), reserve(2, 1)},
		"reserved at the end":                       {reserve(maxCounter-2, 2), reserve(maxCounter, 3), reserve(maxCounter, 3), reserve(maxCounter+1, 3)},
	} {
		for from := range len(l) + 1 {
			n := newLife(1)
			n.steps = append(n.steps, what)
			for i, c := range l {
				n.call(c)
				if i >= from {
					n.skip()
				}
				n.send(20)
			}
			n.want(t)
		}
	}
}

// P17.13: what would be above the ceiling, if one of the rules were not.
func TestBelowTheCeiling(t *testing.T) {
	for _, counter := range edgeCounters() {
		for _, block := range []int{1, 2, 10, maxBlock} {
			n := newLife(1)
			n.call(raise(counter, block))
			n.call(propose())
			n.call(opened(2, counter, block))
			n.want(t)
			n.call(raise(n.lane.Ceil, block))
			n.call(answered(3, counter, stampOf(1, 0), block))
			n.accept(counter)
			n.call(raise(counter, block)) // it is below the ceiling by now, and the ceiling stays
			n.want(t)
			for range 5 {
				n.call(raise(n.lane.Ceil, block))
				n.accept(n.lane.Ceil - 1)
				n.want(t)
			}
		}
	}
}

// P17.11: as long as Cur stays, SendCur and Ceil rise at each Reserve and Raise; Propose leaves them, and gives generations one above the other.
func TestRising(t *testing.T) {
	n := newLife(0)
	for i := range 200 {
		was := n.lane
		ok := n.call(reserve(was.SendCur+uint64(i%3), 1+i%7)) && n.call(raise(was.Ceil+uint64(i%2), 1+i%5)) && n.call(propose())
		if !ok || n.lane.SendCur <= was.SendCur || n.lane.Ceil <= was.Ceil || n.lane.Next != i+2 || n.lane.Cur != 1 {
			t.Fatalf("%s became %s", told(was), told(n.lane))
		}
	}
	n.want(t)
}
