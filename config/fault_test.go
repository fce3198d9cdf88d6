package config_test

import (
	"bytes"
	"fmt"
	"math"
	"slices"
	"testing"

	"culvert/api"
)

// named is a change of which the fault is known.
type named struct {
	what   string
	change api.Change
	fault  api.Errno
}

func wantFaults(t *testing.T, was conf, l []named) {
	t.Helper()
	for _, n := range l {
		wantFault(t, n.what, was, 0, n.fault, n.change)
		if got := modelOf(was).faults(n.change); len(got) != 1 || got[0] != n.fault {
			t.Errorf("%s: the faults are %v, want %d by itself", n.what, got, n.fault)
		}
	}
}

// P16.1, P16.3: each fault of ChAdd by itself.
func TestAddFaults(t *testing.T) {
	good := add(5, key(50), 1)
	done(t, small(), good)
	wantFaults(t, small(), []named{
		{"a prefix", withPrefix(good, pre("11.0.0.0/8")), api.ErrChange},
		{"the link 0", add(0, key(50), 1), api.ErrLink},
		{"a key of 31 bytes", add(5, key(50)[:31], 1), api.ErrKey},
		{"the side 2", add(5, key(50), 2), api.ErrSide},
		{"a peer's link", add(3, key(50), 1), api.ErrLinkTwice},
		{"a peer's key", add(5, key(2), 1), api.ErrKeyTwice},
		{"a lane's key, with the other side", add(5, key(4), 1), api.ErrTurned},
		{"a lane's key, with no generation left", add(5, key(6), 1), api.ErrGen},
	})
	done(t, grown(15, 31), good)
	wantFaults(t, grown(16, 31), []named{{"a peer too many", good, api.ErrPeers}, {"a peer too many, of a lane", add(5, key(4), 0), api.ErrPeers}})
	wantFaults(t, grown(15, 32), []named{{"a lane too many", good, api.ErrLanes}})
	done(t, grown(15, 32), add(5, key(4), 0))
}

// P16.1, P16.3: each fault of ChRemove by itself.
func TestRemoveFaults(t *testing.T) {
	good := remove(3)
	done(t, small(), good)
	wantFaults(t, small(), []named{
		{"a key", withKey(good, key(50)), api.ErrChange},
		{"a key of one byte", withKey(good, []byte{0}), api.ErrChange},
		{"a side", withSide(good, 1), api.ErrChange},
		{"a prefix", withPrefix(good, pre("10.0.0.0/8")), api.ErrChange},
		{"no peer's link", remove(4), api.ErrNoPeer},
	})
	// A link that may not be is no peer's either.
	wantFault(t, "the link 0", small(), 0, api.ErrLink, remove(0))
}

// P16.1, P16.3: each fault of ChSetKey by itself.
func TestSetKeyFaults(t *testing.T) {
	good := setKey(3, key(50), 1)
	done(t, small(), good)
	wantFaults(t, small(), []named{
		{"a prefix", withPrefix(good, pre("11.0.0.0/8")), api.ErrChange},
		{"a key of 33 bytes", setKey(3, append(key(50), 0), 1), api.ErrKey},
		{"the side -1", setKey(3, key(50), -1), api.ErrSide},
		{"no peer's link", setKey(4, key(50), 1), api.ErrNoPeer},
		{"another peer's key", setKey(3, key(1), 0), api.ErrKeyTwice},
		{"a lane's key, with the other side", setKey(3, key(4), 1), api.ErrTurned},
		{"its own key, with the other side", setKey(3, key(2), 0), api.ErrTurned},
		{"a lane's key, with no generation left", setKey(3, key(7), 0), api.ErrGen},
		{"its own key, with no generation left", setKey(maxLink, key(3), 0), api.ErrGen},
	})
	wantFault(t, "the link 0", small(), 0, api.ErrLink, setKey(0, key(50), 1))
	done(t, grown(16, 31), good)
	wantFaults(t, grown(16, 32), []named{{"a lane too many", good, api.ErrLanes}})
	done(t, grown(16, 32), setKey(3, key(4), 0))
	done(t, grown(16, 32), setKey(3, key(2), 1))
}

// P16.1, P16.3: each fault of ChAllow by itself.
func TestAllowFaults(t *testing.T) {
	good := allow(3, pre("11.0.0.0/8"))
	done(t, small(), good)
	wantFaults(t, small(), []named{
		{"a key", withKey(good, key(2)), api.ErrChange},
		{"a side", withSide(good, 1), api.ErrChange},
		{"the zero prefix", allow(3, api.Prefix{}), api.ErrPrefix},
		{"bits behind", allow(3, pre("11.0.0.1/8")), api.ErrPrefix},
		{"no peer's link", allow(4, pre("11.0.0.0/8")), api.ErrNoPeer},
		{"its own prefix", allow(3, pre("10.0.0.0/8")), api.ErrOverlap},
		{"another peer's prefix", allow(3, pre("10.1.0.0/16")), api.ErrOverlap},
		{"a prefix too many", allow(7, pre("11.0.0.0/8")), api.ErrPrefixes},
	})
	wantFault(t, "the link 0", small(), 0, api.ErrLink, allow(0, pre("11.0.0.0/8")))
}

// P16.1, P16.3: each fault of ChDeny by itself.
func TestDenyFaults(t *testing.T) {
	good := deny(3, pre("10.0.0.0/8"))
	done(t, small(), good)
	wantFaults(t, small(), []named{
		{"a key", withKey(good, key(2)), api.ErrChange},
		{"a side", withSide(good, -1), api.ErrChange},
		{"no peer's link", deny(4, pre("10.0.0.0/8")), api.ErrNoPeer},
		{"nobody's prefix", deny(3, pre("11.0.0.0/8")), api.ErrNoPrefix},
		{"another peer's prefix", deny(3, pre("10.1.0.0/16")), api.ErrNoPrefix},
	})
	wantFault(t, "the link 0", small(), 0, api.ErrLink, deny(0, pre("10.0.0.0/8")))
	// What is no prefix is no prefix of the peer either.
	wantFault(t, "the zero prefix", small(), 0, api.ErrPrefix, deny(3, api.Prefix{}))
	wantFault(t, "bits behind", small(), 0, api.ErrPrefix, deny(3, pre("10.0.0.1/8")))
}

func withKey(c api.Change, k []byte) api.Change {
	c.Key = k
	return c
}

func withSide(c api.Change, side int) api.Change {
	c.Side = side
	return c
}

func withPrefix(c api.Change, p api.Prefix) api.Change {
	c.Prefix = p
	return c
}

// P16.3: a kind that is none of the five, whatever the fields say.
func TestNoKind(t *testing.T) {
	for _, kind := range []int{math.MinInt, -1 << 32, -5, -1, 0, 6, 7, 255, 1<<8 + 1, 1<<32 + 1, math.MaxInt} {
		for _, c := range []api.Change{{}, add(5, key(50), 1), remove(3), setKey(3, key(50), 1), allow(3, pre("11.0.0.0/8")), deny(3, pre("10.0.0.0/8")), {Link: -1}} {
			c.Kind = kind
			wantFault(t, "no kind", small(), 0, api.ErrChange, c)
			wantFault(t, "no kind, no peers", conf{}, 0, api.ErrChange, c)
		}
	}
}

// P16.3: a field that the kind does not have, each part of it by itself, ahead of all other faults; an empty key is none.
func TestSpareFields(t *testing.T) {
	keys := map[string][]byte{"a key": key(50), "a peer's key": key(2), "a key of one byte": {0}, "a key of 31 zeros": make([]byte, 31), "a key of 32 zeros": make([]byte, 32)}
	sides := map[string]int{"the side 1": 1, "the side -1": -1, "the side 2": 2, "the least side": math.MinInt, "the greatest side": math.MaxInt}
	prefixes := map[string]api.Prefix{
		"a prefix": pre("10.0.0.0/8"), "0.0.0.0/0": pre("0.0.0.0/0"), "a family": {Addr: api.Addr{Family: -4}}, "Hi alone": {Addr: api.Addr{Hi: 1}},
		"Lo alone": {Addr: api.Addr{Lo: 1 << 63}}, "bits alone": {Bits: 1}, "bits below 0": {Bits: -1},
	}
	good := map[int]api.Change{1: add(5, key(50), 1), 2: remove(3), 3: setKey(3, key(50), 1), 4: allow(3, pre("11.0.0.0/8")), 5: deny(3, pre("10.0.0.0/8"))}
	bad := map[int][]api.Change{ // with every fault that a change of its kind can have without them
		1: {add(0, nil, 2), add(3, key(2), 1)}, 2: {remove(0), remove(4)}, 3: {setKey(0, nil, 2), setKey(4, key(1), 1)}, 4: {allow(0, api.Prefix{}), allow(4, pre("10.1.0.0/16"))}, 5: {deny(0, api.Prefix{}), deny(4, pre("10.1.0.0/16"))},
	}
	for kind, c := range good {
		for _, c := range append(bad[kind], c) {
			if kind == 2 || kind >= 4 {
				for what, k := range keys {
					wantFault(t, what, small(), 0, api.ErrChange, withKey(c, k))
				}
				for what, side := range sides {
					wantFault(t, what, small(), 0, api.ErrChange, withSide(c, side))
				}
			}
			if kind <= 3 {
				for what, p := range prefixes {
					wantFault(t, what, small(), 0, api.ErrChange, withPrefix(c, p))
				}
			}
		}
	}
	for _, kind := range []int{2, 4, 5} {
		want := done(t, small(), good[kind])
		wantDone(t, "an empty key that is not nil", small(), want, withKey(good[kind], []byte{}))
		wantDone(t, "an empty key with spare room", small(), want, withKey(good[kind], key(50)[:0]))
	}
	for _, kind := range []int{1, 3} {
		wantFault(t, "an empty key that is not nil", small(), 0, api.ErrKey, withKey(good[kind], []byte{}))
		wantFault(t, "no key", small(), 0, api.ErrKey, withKey(good[kind], nil))
	}
}

// allChanges calls with changes of each kind and of none, of all values that some fault of any kind hangs on, each with each.
func allChanges(call func(api.Change)) {
	keys := [][]byte{nil, {}, key(1)[:31], append(key(1), 0), key(1), key(2), key(3), key(4), key(5), key(6), key(7), key(50)}
	prefixes := append(pres("10.0.0.0/8", "10.1.0.0/16", "11.0.0.0/8", "10.0.0.0/9", "10.0.0.1/8"), api.Prefix{}, api.Prefix{Addr: api.Addr{Family: 5}})
	for kind := range 7 {
		for _, link := range []int{-1, 0, 1, 3, 7, maxLink - 1, maxLink, maxLink + 1} {
			for side := -1; side <= 2; side++ {
				for _, k := range keys {
					for _, p := range prefixes {
						call(api.Change{Kind: kind, Link: link, Side: side, Key: k, Prefix: p})
					}
				}
			}
		}
	}
}

// pair is two faults of one kind, the one ahead in the table first; one fault twice, where it comes by itself.
type pair struct {
	kind          int
	first, second api.Errno
}

// noPairs are faults that no change of a configuration can have together, or one that none can have by itself.
func noPairs() []pair {
	out := []pair{
		{1, api.ErrLink, api.ErrLinkTwice}, // no peer has such a link
		{2, api.ErrLink, api.ErrLink},      // so there is no such peer either
		{3, api.ErrLink, api.ErrLink},
		{4, api.ErrLink, api.ErrLink},
		{5, api.ErrLink, api.ErrLink},
		{4, api.ErrLink, api.ErrPrefixes}, // where there is no peer, there are no prefixes of it
		{4, api.ErrNoPeer, api.ErrPrefixes},
		{5, api.ErrLink, api.ErrNoPrefix},
		{5, api.ErrNoPeer, api.ErrNoPrefix},
		{4, api.ErrPrefix, api.ErrOverlap}, // no peer has what is no prefix
		{5, api.ErrPrefix, api.ErrPrefix},
	}
	for _, kind := range []int{1, 3} {
		out = append(out,
			pair{kind, api.ErrKey, api.ErrKeyTwice}, // no peer and no lane has such a key
			pair{kind, api.ErrKey, api.ErrTurned},
			pair{kind, api.ErrKey, api.ErrGen},
			pair{kind, api.ErrKeyTwice, api.ErrLanes}, // a peer's key has a lane
			pair{kind, api.ErrLanes, api.ErrTurned},
			pair{kind, api.ErrLanes, api.ErrGen},
		)
	}
	return out
}

// P16.1, P16.3: all changes of the values that faults hang on, of configurations with room and without: each fault by itself and any two of one kind, as far as there can be such changes, and the first of the table is told.
func TestAnyFaults(t *testing.T) {
	seen := map[pair]int{}
	for _, was := range []conf{{}, small(), grown(16, 31), grown(15, 32), grown(16, 32)} {
		m := modelOf(was)
		allChanges(func(c api.Change) {
			faults := m.faults(c)
			for i, first := range faults {
				for _, second := range faults[i+1:] {
					seen[pair{c.Kind, first, second}]++
				}
			}
			if len(faults) == 0 {
				wantPlain(t, "no fault", was, c)
				seen[pair{c.Kind, api.OK, api.OK}]++
				return
			}
			if len(faults) == 1 {
				seen[pair{c.Kind, faults[0], faults[0]}]++
			}
			wantFault(t, fmt.Sprint("of the faults ", faults), was, 0, faults[0], c)
		})
	}
	for kind := 1; kind <= 5; kind++ {
		order := tableOrder(kind)
		wantSeen(t, seen, pair{kind, api.OK, api.OK})
		for i, first := range order {
			for _, second := range order[i:] {
				wantSeen(t, seen, pair{kind, first, second})
			}
		}
	}
}

// wantSeen: changes with just these two faults have been tried, unless there can be none.
func wantSeen(t *testing.T, seen map[pair]int, p pair) {
	t.Helper()
	if never := slices.Contains(noPairs(), p); never != (seen[p] == 0) {
		t.Errorf("changes of the kind %d with the faults %d and %d: %d", p.kind, p.first, p.second, seen[p])
	}
}

// P16.1, P16.3: the bounds of the link, of each kind.
func TestLinkBounds(t *testing.T) {
	for link, right := range map[int]bool{math.MinInt: false, -maxLink: false, -1: false, 0: false, 1: true, 2: true, 255: true, 256: true, maxLink - 1: true, maxLink: true, maxLink + 1: false, maxLink + 2: false, math.MaxInt: false} {
		changes := []api.Change{add(link, key(1), 0), remove(link), setKey(link, key(2), 0), allow(link, pre("10.0.0.0/8")), deny(link, pre("10.0.0.0/8"))}
		for i, c := range changes {
			was := conf{}
			if i > 0 && right {
				was = done(t, was, add(link, key(1), 0))
			}
			if i == 4 && right {
				was = done(t, was, changes[3])
			}
			if right {
				wantPlain(t, fmt.Sprint("the link ", link), was, c)
				done(t, was, c)
			} else {
				wantFault(t, fmt.Sprint("the link ", link), was, 0, api.ErrLink, c)
			}
		}
	}
}

// P16.3: a key has 32 bytes, neither more nor fewer; a side is 0 or 1.
func TestKeyAndSideBounds(t *testing.T) {
	for _, was := range []conf{{}, small(), grown(16, 32)} {
		for _, n := range []int{0, 1, 16, 31, 33, 40, 64, 1000} {
			k := bytes.Repeat([]byte{9}, n)
			wantFault(t, fmt.Sprint("added, a key of bytes: ", n), was, 0, api.ErrKey, add(5, k, 0))
			wantFault(t, fmt.Sprint("set, a key of bytes: ", n), was, 0, api.ErrKey, setKey(3, k, 0))
		}
		for _, side := range []int{math.MinInt, -2, -1, 2, 3, 256, 257, 1 << 32, math.MaxInt} {
			wantFault(t, fmt.Sprint("added, the side ", side), was, 0, api.ErrSide, add(5, key(50), side))
			wantFault(t, fmt.Sprint("set, the side ", side), was, 0, api.ErrSide, setKey(3, key(50), side))
			wantFault(t, fmt.Sprint("set, a lane's key, the side ", side), was, 0, api.ErrSide, setKey(3, key(4), side))
		}
	}
	for side := range 2 {
		fresh := api.Lane{Key: make([]byte, 32), Side: side, Cur: 1}
		wantDone(t, "32 zeros", conf{}, conf{[]api.Peer{peer(1, fresh.Key)}, []api.Lane{fresh}}, add(1, make([]byte, 32), side))
	}
}

// P16.3: the peers, the lanes and the prefixes that there may be, and one more.
func TestCounts(t *testing.T) {
	var was conf
	for i := range 16 {
		was = done(t, was, add(16-i, key(i), i%2))
	}
	for _, link := range []int{17, maxLink} {
		wantFault(t, "the peer 17", was, 0, api.ErrPeers, add(link, key(99), 0))
	}
	wantFault(t, "the peer 17 behind one that goes and comes", was, 2, api.ErrPeers, remove(4), add(4, key(98), 0), add(17, key(99), 0))
	for i := range 16 { // the peers stay as many, the lanes become more
		was = done(t, was, setKey(5, key(100+i), 0))
	}
	if len(was.peers) != 16 || len(was.lanes) != 32 {
		t.Fatalf("%d peers, %d lanes", len(was.peers), len(was.lanes))
	}
	wantFault(t, "the lane 33, set", was, 0, api.ErrLanes, setKey(5, key(99), 0))
	wantFault(t, "the lane 33, set behind a peer that goes", was, 1, api.ErrLanes, remove(6), setKey(5, key(99), 0))
	wantFault(t, "the lane 33, added", was, 1, api.ErrLanes, remove(6), add(6, key(99), 0))
	done(t, was, remove(6), add(6, key(100), 0))

	for i := range 16 {
		was = done(t, was, allow(2, many(3, 16)[15-i]))
	}
	wantFault(t, "the prefix 17", was, 0, api.ErrPrefixes, allow(2, pre("10.0.0.0/8")))
	wantFault(t, "the prefix 17, which is there", was, 0, api.ErrOverlap, allow(2, many(3, 1)[0]))
	done(t, was, allow(3, pre("10.0.0.0/8")))
	done(t, was, deny(2, many(3, 4)[2]), allow(2, pre("10.0.0.0/8")))
}

// P16.3: what is a prefix is asked at each of its bounds.
func TestPrefixBounds(t *testing.T) {
	was := done(t, conf{}, add(7, key(1), 0))
	right := pres("0.0.0.0/0", "128.0.0.0/1", "255.255.255.255/32", "255.255.255.254/31", "::/0", "8000::/1", "ffff:ffff:ffff:ffff::/64", "ffff:ffff:ffff:ffff:8000::/65", "::1/128", "ffff:ffff:ffff:ffff:ffff:ffff:ffff:ffff/128")
	for _, p := range right {
		with := conf{[]api.Peer{peer(7, key(1), p)}, was.lanes}
		wantDone(t, "allowed", was, with, allow(7, p))
		wantDone(t, "denied", with, was, deny(7, p))
	}
	wrong := append(pres("128.0.0.0/0", "255.255.255.255/31", "8000::/0", "::1/127", "ffff:ffff:ffff:ffff:8000::/64"),
		api.Prefix{}, api.Prefix{Bits: 8}, api.Prefix{Addr: api.Addr{Family: 4}, Bits: -1}, api.Prefix{Addr: api.Addr{Family: 4}, Bits: 33}, api.Prefix{Addr: api.Addr{Family: 6}, Bits: 129},
		api.Prefix{Addr: api.Addr{Family: 6}, Bits: -1}, api.Prefix{Addr: api.Addr{Family: 5}}, api.Prefix{Addr: api.Addr{Family: 4, Hi: 1}, Bits: 32}, api.Prefix{Addr: api.Addr{Family: 4, Lo: 1 << 32}, Bits: 32},
		api.Prefix{Addr: api.Addr{Family: -4}}, api.Prefix{Addr: api.Addr{Family: 4}, Bits: math.MaxInt}, api.Prefix{Addr: api.Addr{Family: 6}, Bits: math.MinInt})
	for _, p := range wrong {
		wantFault(t, "allowed", was, 0, api.ErrPrefix, allow(7, p))
		wantFault(t, "denied", was, 0, api.ErrPrefix, deny(7, p))
	}
}

// P16.1, P16.3: only just the same prefix is one that somebody has: not one that holds it, lies in it, is of the other family or begins elsewhere.
func TestOverlap(t *testing.T) {
	was := small()
	for _, text := range []string{"0.0.0.0/0", "8.0.0.0/7", "10.0.0.0/9", "10.128.0.0/9", "10.0.0.0/32", "10.0.0.0/15", "10.1.0.0/17", "11.0.0.0/8", "fc00::/7", "fd00::/9", "fd00::/128", "::/0", "::/8", "a00::/8"} {
		p := pre(text)
		wantPlain(t, "near one that is there", was, allow(3, p))
		done(t, was, allow(3, p))
		done(t, was, allow(maxLink, p))
		wantFault(t, "near one that is there", was, 0, api.ErrNoPrefix, deny(3, p))
	}
	for _, own := range was.peers {
		for _, p := range own.Prefixes {
			for _, link := range []int{3, 7, maxLink} {
				wantFault(t, "there", was, 0, api.ErrOverlap, allow(link, p))
				if link != own.Link {
					wantFault(t, "another one's", was, 0, api.ErrNoPrefix, deny(link, p))
				}
			}
			wantDone(t, "handed over", was, plainDone(was, deny(own.Link, p), allow(maxLink, p)), deny(own.Link, p), allow(maxLink, p))
			wantFault(t, "handed over the wrong way round", was, 0, api.ErrOverlap, allow(maxLink, p), deny(own.Link, p))
		}
	}
}

// plainDone are the lists behind changes that have no fault, by the plain form.
func plainDone(was conf, l ...api.Change) conf {
	got, _, e := plainJudge(was, l)
	if e != api.OK {
		panic(fmt.Sprint("a fault: ", e))
	}
	return got
}
