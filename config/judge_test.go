package config_test

import (
	"fmt"
	"slices"
	"testing"

	"culvert/api"
)

// turns are that many changes without a fault over small: a prefix comes and goes.
func turns(n int) []api.Change {
	var l []api.Change
	for i := range n {
		l = append(l, []api.Change{allow(3, pre("11.0.0.0/8")), deny(3, pre("11.0.0.0/8"))}[i%2])
	}
	return l
}

// P16.3: no change, and more than there may be, whatever they are and whatever they are judged on.
func TestHowManyChanges(t *testing.T) {
	for _, was := range []conf{{}, small(), grown(16, 32)} {
		wantFault(t, "nil", was, 0, api.ErrChange)
		wantFault(t, "the empty list", was, 0, api.ErrChange, []api.Change{}...)
		wantFault(t, "the empty list with spare room", was, 0, api.ErrChange, turns(4)[:0]...)
		for _, n := range []int{33, 34, 64, 1000} {
			wantFault(t, fmt.Sprint("right ones: ", n), was, 0, api.ErrChange, turns(n)...)
			wantFault(t, fmt.Sprint("zero ones: ", n), was, 0, api.ErrChange, make([]api.Change, n)...)
			wantFault(t, fmt.Sprint("others: ", n), was, 0, api.ErrChange, slices.Repeat([]api.Change{remove(0)}, n)...)
			wantFault(t, fmt.Sprint("right ones, wrong ones behind them: ", n), was, 0, api.ErrChange, append(turns(32), slices.Repeat([]api.Change{{Kind: 9}}, n-32)...)...)
		}
	}
	for n := 1; n <= 32; n++ {
		wantPlain(t, fmt.Sprint("right ones: ", n), small(), turns(n)...)
		done(t, small(), turns(n)...)
	}
}

// P16.3: the first change that has a fault decides, at each place of lists of each length, whatever stands behind it; nothing is told but its number and its fault.
func TestWhereTheFaultIs(t *testing.T) {
	wrong := map[api.Errno]api.Change{
		api.ErrChange: {Kind: 6}, api.ErrLink: remove(0), api.ErrKey: add(5, nil, 0), api.ErrSide: add(5, key(50), 2), api.ErrLinkTwice: add(3, key(50), 0), api.ErrKeyTwice: add(5, key(1), 0),
		api.ErrTurned: add(5, key(4), 1), api.ErrGen: add(5, key(6), 1), api.ErrNoPeer: remove(4), api.ErrPrefix: allow(3, api.Prefix{}), api.ErrOverlap: allow(3, pre("10.1.0.0/16")),
		api.ErrPrefixes: allow(7, pre("12.0.0.0/8")), api.ErrNoPrefix: deny(3, pre("12.0.0.0/8")),
	}
	for fault, c := range wrong {
		for n := range 33 {
			for at := range n {
				l := turns(n)
				l[at] = c
				wantFault(t, "one", small(), at, fault, l...)
			}
		}
		for second, other := range wrong { // an earlier one decides, be its number lesser or greater
			l := turns(6)
			l[3], l[4], l[5] = c, other, c
			wantFault(t, fmt.Sprint("ahead of the fault ", second), small(), 3, fault, l...)
		}
	}
	full := grown(16, 32)
	for at := range 32 {
		l := turns(32)
		l[at] = setKey(3, key(50), 0)
		wantFault(t, "a lane too many", full, at, api.ErrLanes, l...)
		l[at] = add(5, key(4), 0)
		wantFault(t, "a peer too many", full, at, api.ErrPeers, l...)
	}
}

// P16.3: a change is judged on what those ahead of it in the list have made, and only on that.
func TestJudgedOnThoseAhead(t *testing.T) {
	one, p := add(5, key(50), 1), pre("11.0.0.0/8")
	cases := []struct {
		what  string
		fault api.Errno // of the last change
		list  []api.Change
	}{
		{"a peer of the list", api.OK, []api.Change{one, allow(5, p)}},
		{"a peer that comes later", api.ErrNoPeer, []api.Change{allow(5, p)}},
		{"the link of one of the list", api.ErrLinkTwice, []api.Change{one, add(5, key(51), 1)}},
		{"the key of one of the list", api.ErrKeyTwice, []api.Change{one, add(6, key(50), 1)}},
		{"the key that one of the list was set to", api.ErrKeyTwice, []api.Change{setKey(3, key(50), 0), add(6, key(50), 0)}},
		{"the key that one of the list had", api.OK, []api.Change{setKey(3, key(50), 0), add(6, key(2), 1)}},
		{"set to the key of one of the list", api.ErrKeyTwice, []api.Change{one, setKey(3, key(50), 1)}},
		{"the side of one of the list", api.ErrTurned, []api.Change{one, remove(5), add(5, key(50), 0)}},
		{"the lane of one of the list", api.OK, []api.Change{one, remove(5), add(5, key(50), 1)}},
		{"the last generation, taken by the list", api.ErrGen, []api.Change{add(5, key(5), 1), setKey(5, key(5), 1)}},
		{"a peer that the list removed", api.ErrNoPeer, []api.Change{remove(3), setKey(3, key(50), 0)}},
		{"the link of a peer that the list removed", api.OK, []api.Change{remove(3), add(3, key(50), 0)}},
		{"the prefix of a peer that the list removed", api.OK, []api.Change{remove(3), allow(maxLink, pre("10.0.0.0/8"))}},
		{"the prefix that the list allowed", api.ErrOverlap, []api.Change{allow(3, p), allow(maxLink, p)}},
		{"the prefix that the list denied", api.OK, []api.Change{deny(3, pre("10.0.0.0/8")), allow(maxLink, pre("10.0.0.0/8"))}},
		{"denied what the list allowed", api.OK, []api.Change{allow(3, p), deny(3, p)}},
		{"denied what the list denied", api.ErrNoPrefix, []api.Change{deny(3, pre("fd00::/8")), deny(3, pre("fd00::/8"))}},
		{"room that the list made", api.OK, []api.Change{deny(7, pre("10.1.0.0/16")), allow(7, p)}},
		{"room that the list took", api.ErrPrefixes, []api.Change{deny(7, pre("10.1.0.0/16")), allow(7, p), allow(7, pre("12.0.0.0/8"))}},
		{"a peer removed and added has no prefixes", api.ErrNoPrefix, []api.Change{remove(3), add(3, key(2), 1), deny(3, pre("10.0.0.0/8"))}},
	}
	for _, c := range cases {
		last := len(c.list) - 1
		wantPlain(t, c.what, small(), c.list...)
		if c.fault == api.OK {
			done(t, small(), c.list...)
		} else {
			wantFault(t, c.what, small(), last, c.fault, c.list...)
		}
		if last > 0 {
			done(t, small(), c.list[:last]...)
		}
	}
	full := grown(16, 31)
	wantFault(t, "the last lane taken by the list", full, 1, api.ErrLanes, setKey(3, key(50), 0), setKey(3, key(51), 0))
	done(t, full, setKey(3, key(50), 0), setKey(3, key(4), 0), setKey(3, key(50), 0))
	done(t, full, remove(7), add(7, key(50), 0))
	wantFault(t, "the place of a peer taken by the list", full, 2, api.ErrPeers, remove(7), add(7, key(50), 0), add(8, key(51), 0))
}

// someChanges are right and wrong ones over each other's work: few links, keys and prefixes, so that they meet.
func someChanges() []api.Change {
	var l []api.Change
	for link := range 3 {
		l = append(l, remove(link))
		for k := 1; k <= 3; k++ {
			l = append(l, add(link, key(k), k%2), setKey(link, key(k), k%2))
		}
		for _, p := range pres("10.0.0.0/8", "10.0.0.0/9") {
			l = append(l, allow(link, p), deny(link, p))
		}
	}
	return append(l, setKey(1, key(1), 0), add(2, key(3), 0), api.Change{Kind: 2, Link: 1, Side: 1}, allow(1, api.Prefix{}))
}

// meeting is the configuration that someChanges meet: of the key 3 just one generation is left, there is no lane of 2.
func meeting() conf {
	return conf{[]api.Peer{peer(1, key(1), pre("10.0.0.0/9"))}, []api.Lane{lane(key(1), 1, 2, 5), lane(key(3), 1, maxGen-1, 0)}}
}

// P16.1 to P16.3: all lists of up to three changes that meet.
func TestAllShortLists(t *testing.T) {
	all, right := someChanges(), 0
	var grow func(l []api.Change)
	grow = func(l []api.Change) {
		for _, was := range []conf{{}, meeting()} {
			if len(l) > 0 {
				wantPlain(t, "a short list", was, l...)
				if _, _, e := judge(was, l...); e == api.OK {
					right++
				}
			}
		}
		for _, c := range all {
			if len(l) < 3 {
				grow(append(slices.Clone(l), c))
			}
		}
	}
	grow(nil)
	if right < 1000 {
		t.Errorf("only %d lists without a fault", right)
	}
}

// P16.1 to P16.3: any configurations and lists.
func TestAnyLists(t *testing.T) {
	s := newSampler(1)
	faults, right := map[api.Errno]int{}, 0
	for range 6000 {
		was := s.conf()
		now, n := was, 1+s.IntN(pick(s, []int{3, 32}))
		var l []api.Change
		for range n { // mostly changes that have no fault, so that lists become long
			c := s.change(now)
			got, _, e := plainJudge(now, []api.Change{c})
			if e == api.OK {
				now = got
			}
			if e == api.OK || s.IntN(20) == 0 {
				l = append(l, c)
			}
		}
		wantPlain(t, "any", was, l...)
		_, at, e := judge(was, l...)
		faults[e]++
		if e == api.OK && len(l) > 5 || at > 5 {
			right++
		}
	}
	if right < 500 || len(faults) < 11 {
		t.Errorf("%d lists of which many are done, the faults %v", right, faults)
	}
}
