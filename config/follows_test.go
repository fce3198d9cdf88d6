package config_test

import (
	"fmt"
	"slices"
	"testing"

	"culvert/api"
)

// history is what lanes have been, over lists done one behind the other.
type history struct {
	sides, highest map[string]int // the side of each key, and the greatest of all that its Cur and Next have been
}

func newHistory(c conf) *history {
	h := &history{map[string]int{}, map[string]int{}}
	h.see(c)
	return h
}

func (h *history) see(c conf) {
	for _, l := range c.lanes {
		h.sides[string(l.Key)] = l.Side
		h.highest[string(l.Key)] = max(h.highest[string(l.Key)], l.Cur, l.Next)
	}
}

// wantKept: behind one change no lane is gone or turned, no Cur has fallen, and that of the key that was given is above all that has been; no other lane has changed.
func (h *history) wantKept(t *testing.T, was, is conf, c api.Change) {
	t.Helper()
	now := map[string]api.Lane{}
	for _, l := range is.lanes {
		now[string(l.Key)] = l
	}
	gives := c.Kind == 1 || c.Kind == 3
	for _, l := range was.lanes {
		n, ok := now[string(l.Key)]
		given := gives && string(l.Key) == string(c.Key)
		switch {
		case !ok || n.Side != h.sides[string(l.Key)] || n.Cur < l.Cur || n.Next != l.Next || n.Seen != l.Seen:
			t.Fatalf("%s: the lane %v became %v, %v", toldChanges([]api.Change{c}), l, n, ok)
		case given && n.Cur <= h.highest[string(l.Key)]:
			t.Fatalf("%s: the lane %v became %v, though it has been %d", toldChanges([]api.Change{c}), l, n, h.highest[string(l.Key)])
		case !given && !sameLane(l, n):
			t.Fatalf("%s: the lane %v became %v, though it was not given", toldChanges([]api.Change{c}), l, n)
		}
	}
	if more := len(is.lanes) - len(was.lanes); more > 1 || more == 1 && !gives {
		t.Fatalf("%s: %d lanes more", toldChanges([]api.Change{c}), more)
	}
	h.see(is)
}

// live draws a change again and again until one has no fault, or gives up.
func live(s sampler, was conf) (api.Change, conf, bool) {
	for range 40 {
		c := s.change(was)
		if is, at, e := judge(was, c); at == 0 && e == api.OK {
			return c, is, true
		}
	}
	return api.Change{}, was, false
}

// P16.5: what is answered with OK is a configuration, over long histories; no lane goes, none turns, no Cur falls, and one that is given rises above all that it has been. In between a lane's Next and Cur rise as other layers make them.
func TestHistories(t *testing.T) {
	s := newSampler(2)
	lived := 0
	for range 60 {
		was := s.conf()
		if s.IntN(3) == 0 {
			was = conf{}
		}
		h := newHistory(was)
		for range 120 {
			c, is, ok := live(s, was)
			if !ok {
				break
			}
			lived++
			wantConf(t, "behind a change", is)
			h.wantKept(t, was, is, c)
			for i := range is.lanes {
				if s.IntN(8) == 0 {
					is.lanes[i].Next = min(maxGen, max(is.lanes[i].Next, is.lanes[i].Cur)+s.IntN(3))
				}
			}
			h.see(is)
			was = is
		}
	}
	if lived < 4000 {
		t.Errorf("only %d changes were done", lived)
	}
}

// wantParts: a list does what its parts do one behind the other, wherever it is cut; if it has a fault, so has the part that the fault lies in, at the number that is left there.
func wantParts(t *testing.T, was conf, l []api.Change) {
	t.Helper()
	whole, at, e := judge(was, l...)
	for cut := 1; cut < len(l); cut++ {
		first, firstAt, firstE := judge(was, l[:cut]...)
		if e != api.OK && at < cut {
			if firstE != e || firstAt != at || !same(first, conf{}) {
				t.Fatalf("%s: the fault %d at %d, cut at %d the fault %d at %d", toldChanges(l), e, at, cut, firstE, firstAt)
			}
			continue
		}
		if firstE != api.OK || firstAt != 0 {
			t.Fatalf("%s: the fault %d at %d, cut at %d the fault %d at %d", toldChanges(l), e, at, cut, firstE, firstAt)
		}
		rest, restAt, restE := judge(first, l[cut:]...)
		if e != api.OK {
			restAt += cut
		}
		if !same(rest, whole) || restE != e || restAt != at {
			t.Fatalf("%s of %s = %s, %d, %d; cut at %d it is %s, %d, %d", toldChanges(l), told(was), told(whole), at, e, cut, told(rest), restAt, restE)
		}
	}
}

// P16.5: of any lists, with a fault and without.
func TestParts(t *testing.T) {
	s := newSampler(3)
	long, faulty := 0, 0
	for range 300 {
		was := s.conf()
		now := was
		var l []api.Change
		for range 1 + s.IntN(32) {
			c, is, _ := live(s, now)
			if s.IntN(40) == 0 {
				c = s.change(now)
				is, _, _ = judge(now, c)
			}
			l, now = append(l, c), is
		}
		wantParts(t, was, l)
		_, _, e := judge(was, l...)
		if e != api.OK {
			faulty++
		} else if len(l) > 10 {
			long++
		}
	}
	if long < 20 || faulty < 20 {
		t.Errorf("%d long lists without a fault, %d with one", long, faulty)
	}
}

// P16.5: all that up to four changes can bring about is a configuration, and keeps its lanes.
func TestReached(t *testing.T) {
	seen := map[string]bool{}
	frontier := []conf{meeting()}
	for depth := 1; depth <= 4; depth++ {
		var next []conf
		for _, was := range frontier {
			for _, c := range someChanges() {
				is, at, e := judge(was, c)
				if e != api.OK {
					continue
				}
				wantConf(t, fmt.Sprint("reached by changes: ", depth), is)
				if at != 0 {
					t.Fatalf("OK and the number %d", at)
				}
				newHistory(was).wantKept(t, was, is, c)
				if !seen[told(is)] {
					seen[told(is)] = true
					next = append(next, is)
				}
			}
		}
		frontier = next
	}
	if len(seen) < 300 {
		t.Errorf("only %d configurations were reached", len(seen))
	}
}

// P16.5, P0.4: what is answered hangs on nothing but the arguments: not on calls ahead, not on calls at the same time, not on how long the lists' memory is.
func TestNothingElse(t *testing.T) {
	l := []api.Change{remove(7), add(7, key(50), 1), setKey(3, key(1), 0), allow(7, pre("10.1.0.0/16")), add(5, key(2), 1)}
	want := done(t, small(), l...)
	answers := make(chan conf)
	for i := range 50 {
		go func() {
			if i%2 == 0 {
				judge(grown(16, 32), remove(3), remove(0))
			}
			got, _, _ := judge(small(), l...)
			answers <- got
		}()
	}
	for range 50 {
		if got := <-answers; !same(got, want) {
			t.Errorf("%s, want %s", told(got), told(want))
		}
	}
	was := small()
	was.peers, was.lanes = slices.Grow(was.peers, 50), slices.Grow(was.lanes, 50)
	for i := range was.peers {
		was.peers[i].Prefixes, was.peers[i].Key = slices.Grow(was.peers[i].Prefixes, 50), slices.Grow(was.peers[i].Key, 50)
	}
	wantDone(t, "with spare room", was, want, l...)
}
