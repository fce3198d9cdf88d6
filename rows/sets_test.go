package rows_test

import (
	"fmt"
	"slices"
	"testing"

	"culvert/api"
	"culvert/rows"
)

func put(r api.Row) api.Set  { return api.Set{Key: r.Key, Value: r.Value} }
func gone(r api.Row) api.Set { return api.Set{Key: r.Key, Gone: true} }

// wantSetsJust: Sets answers just these.
func wantSetsJust(t *testing.T, what string, was, is state, want ...api.Set) {
	t.Helper()
	if got, e := setsOf(was, is); !sameSets(got, want) || e != api.OK {
		t.Errorf("%s: Sets = %s, %d, want %s, OK", what, toldSets(got), e, toldSets(want))
	}
}

// P15.5: rows that are new, that have another value, that are gone, that are alike; each by itself.
func TestSetsOfOneRow(t *testing.T) {
	for i, p := range somePeers() {
		q := peer(p.Link, key(500+i), p.Prefixes...)
		without, with := state{}, state{peers: []api.Peer{p}}
		wantSetsJust(t, "a new peer", without, with, put(putPeer(p)))
		wantSetsJust(t, "a peer that is gone", with, without, gone(putPeer(p)))
		wantSetsJust(t, "a peer that is alike", with, with)
		wantSetsJust(t, "a peer with another key", with, state{peers: []api.Peer{q}}, put(putPeer(q)))
	}
	for i, l := range someLanes() {
		m := lane(l.Key, 500+i)
		without, with := state{}, state{lanes: []api.Lane{l}}
		wantSetsJust(t, "a new lane", without, with, put(putLane(l)))
		wantSetsJust(t, "a lane that is gone", with, without, gone(putLane(l)))
		wantSetsJust(t, "a lane that is alike", with, with)
		wantSetsJust(t, "a lane that says others", with, state{lanes: []api.Lane{m}}, put(putLane(m)))
	}
	wantSetsJust(t, "nothing", state{}, state{})
	wantSetsJust(t, "empty lists", state{peers: []api.Peer{}, lanes: []api.Lane{}}, state{})
}

// P15.5: each field of a peer and of a lane tells whether the value is another one.
func TestSetsOfOneField(t *testing.T) {
	p := peer(5, key(5), pres("10.0.0.0/8", "fd00::/8")...)
	for _, q := range []api.Peer{
		peer(5, key(6), p.Prefixes...), peer(5, p.Key), peer(5, p.Key, p.Prefixes[0]), peer(5, p.Key, p.Prefixes[1]),
		peer(5, p.Key, pres("10.0.0.0/8", "fd00::/9")...), peer(5, p.Key, pres("11.0.0.0/8", "fd00::/8")...), peer(5, p.Key, pres("10.0.0.0/8", "fd00::/8", "fd00::1/128")...),
	} {
		wantSetsJust(t, fmt.Sprint("to ", q), state{peers: []api.Peer{p}}, state{peers: []api.Peer{q}}, put(putPeer(q)))
		wantSetsJust(t, fmt.Sprint("from ", q), state{peers: []api.Peer{q}}, state{peers: []api.Peer{p}}, put(putPeer(p)))
	}
	l := lane(key(5), 8)
	for _, do := range []func(*api.Lane){
		func(m *api.Lane) { m.Side = 1 - m.Side }, func(m *api.Lane) { m.Cur++ }, func(m *api.Lane) { m.Next++ },
		func(m *api.Lane) { m.SendCur++ }, func(m *api.Lane) { m.Ceil++ }, func(m *api.Lane) { m.Seen.Sec++ }, func(m *api.Lane) { m.Seen.Nano++ },
	} {
		m := l
		do(&m)
		wantSetsJust(t, fmt.Sprint("to ", m), state{lanes: []api.Lane{l}}, state{lanes: []api.Lane{m}}, put(putLane(m)))
	}
	moved := peer(6, p.Key, p.Prefixes...) // another link is another row
	wantSetsJust(t, "another link", state{peers: []api.Peer{p}}, state{peers: []api.Peer{moved}}, gone(putPeer(p)), put(putPeer(moved)))
	other := lane(key(4), 8) // so is another key
	wantSetsJust(t, "another key", state{lanes: []api.Lane{l}}, state{lanes: []api.Lane{other}}, put(putLane(other)), gone(putLane(l)))
}

// mixed are two states with rows of all kinds: new, with another value, gone, alike.
func mixed() (was, is state, want []api.Set) {
	alike, changed, left, added := peer(70000, key(2), pre("10.0.0.0/8")), peer(3, key(3)), peer(256, key(4)), peer(255, key(8))
	now := peer(3, key(3), pre("11.0.0.0/8"))
	a, b, c, d, e := lane(key(2), 1), lane(key(3), 2), lane(key(4), 3), lane(key(8), 4), lane(key(1), 5)
	moved := lane(key(3), 9)
	was = state{peers: []api.Peer{alike, changed, left}, lanes: []api.Lane{a, b, c, e}}
	is = state{peers: []api.Peer{alike, now, added}, lanes: []api.Lane{a, moved, c, d}}
	want = []api.Set{gone(putLane(e)), put(putLane(moved)), put(putLane(d)), put(putPeer(now)), put(putPeer(added)), gone(putPeer(left))}
	return was, is, want
}

// P15.5: all of them at once, in the order of the keys, whatever the order of the lists.
func TestSetsOfAllAtOnce(t *testing.T) {
	was, is, want := mixed()
	wantSetsJust(t, "all at once", was, is, want...)
	orders(was.peers, func(peers []api.Peer) {
		orders(is.peers, func(newPeers []api.Peer) {
			wantSetsJust(t, "peers in another order", state{peers: peers, lanes: was.lanes}, state{peers: newPeers, lanes: is.lanes}, want...)
		})
	})
	orders(was.lanes, func(lanes []api.Lane) {
		orders(is.lanes, func(newLanes []api.Lane) {
			wantSetsJust(t, "lanes in another order", state{peers: was.peers, lanes: lanes}, state{peers: is.peers, lanes: newLanes}, want...)
		})
	})
	// The boots are not looked at, so there is no set of them.
	was.boots, is.boots = 5, 6
	wantSetsJust(t, "other boots", was, is, want...)
}

// P15.5: the keys rise byte by byte: lanes ahead of peers, links as numbers.
func TestSetsInOrder(t *testing.T) {
	sample := newSampler(6)
	for range 60 {
		s := full(16, 32)
		sets, e := rows.Sets(nil, shuffled(sample, s.peers), nil, shuffled(sample, s.lanes))
		if len(sets) != 48 || e != api.OK {
			t.Fatalf("Sets of 48 rows = %d sets, %d", len(sets), e)
		}
		for i, l := range s.lanes {
			if !sameSet(sets[i], put(putLane(l))) {
				t.Fatalf("the set %d is %s", i, toldSets(sets[i:i+1]))
			}
		}
		for i, p := range s.peers {
			if !sameSet(sets[32+i], put(putPeer(p))) {
				t.Fatalf("the set %d is %s", 32+i, toldSets(sets[32+i:33+i]))
			}
		}
		back, e := rows.Sets(shuffled(sample, s.peers), nil, shuffled(sample, s.lanes), nil)
		if len(back) != 48 || e != api.OK {
			t.Fatalf("Sets back = %d sets, %d", len(back), e)
		}
		for i := range back {
			if !sameSet(back[i], api.Set{Key: sets[i].Key, Gone: true}) {
				t.Fatalf("the set %d back is %s", i, toldSets(back[i:i+1]))
			}
		}
	}
}

// oneOfFour are the mixed states with one list twisted: the old peers' is 0, the new peers' 1, the old lanes' 2, the new lanes' 3.
func oneOfFour(at int, twistPeers func([]api.Peer) []api.Peer, twistLanes func([]api.Lane) []api.Lane) (was, is state) {
	was, is, _ = mixed()
	switch at {
	case 0:
		was.peers = twistPeers(was.peers)
	case 1:
		is.peers = twistPeers(is.peers)
	case 2:
		was.lanes = twistLanes(was.lanes)
	case 3:
		is.lanes = twistLanes(is.lanes)
	}
	return was, is
}

// P15.5: what may not be, in each of the four lists, at each place, where all else is right.
func TestSetsOfWhatMayNotBe(t *testing.T) {
	for _, w := range peerTwists() {
		p := peer(5, key(5))
		w.do(&p)
		if w.ok {
			continue
		}
		for _, at := range []int{0, 1} {
			for place := range 4 {
				was, is := oneOfFour(at, func(l []api.Peer) []api.Peer { return slices.Insert(l, min(place, len(l)), p) }, nil)
				wantNoSets(t, "a peer: "+w.field+" "+w.name, was, is)
			}
		}
		wantNoneOfIt(t, "a peer: "+w.field+" "+w.name, state{peers: []api.Peer{p}})
	}
	for _, w := range laneTwists() {
		l := lane(key(5), 8)
		w.do(&l)
		if w.ok {
			continue
		}
		for _, at := range []int{2, 3} {
			for place := range 4 {
				was, is := oneOfFour(at, nil, func(all []api.Lane) []api.Lane { return slices.Insert(all, min(place, len(all)), l) })
				wantNoSets(t, "a lane: "+w.field+" "+w.name, was, is)
			}
		}
		wantNoneOfIt(t, "a lane: "+w.field+" "+w.name, state{lanes: []api.Lane{l}})
	}
	wantNoneOfIt(t, "the zero peer", state{peers: make([]api.Peer, 1)})
	wantNoneOfIt(t, "the zero lane", state{lanes: make([]api.Lane, 1)})
}

// wantNoneOfIt: a state that may not be is refused as the old one, as the new one, and as both, though nothing changes then.
func wantNoneOfIt(t *testing.T, what string, s state) {
	t.Helper()
	wantNoSets(t, what+", alone", s, state{})
	wantNoSets(t, what+", alone and new", state{}, s)
	wantNoSets(t, what+", alone and alike", s, s)
}

// P15.5: two peers of one link and two lanes of one key: in one list they may not be, alike or not; in two lists they may.
func TestSetsOfTwins(t *testing.T) {
	for at := range 4 {
		for i := range 3 {
			for j := range 4 {
				for _, alike := range []bool{true, false} {
					twinPeer := func(l []api.Peer) []api.Peer {
						twin := l[i]
						if !alike {
							twin = peer(l[i].Link, key(600))
						}
						return slices.Insert(l, j, twin)
					}
					twinLane := func(l []api.Lane) []api.Lane {
						twin := l[i]
						if !alike {
							twin = lane(l[i].Key, 600)
						}
						return slices.Insert(l, j, twin)
					}
					was, is := oneOfFour(at, twinPeer, twinLane)
					wantNoSets(t, fmt.Sprintf("the list %d with its %d again at %d, alike %v", at, i, j, alike), was, is)
				}
			}
		}
	}
	p, q := peer(5, key(1)), peer(5, key(2))
	wantSetsJust(t, "one link in two lists", state{peers: []api.Peer{p}}, state{peers: []api.Peer{q}}, put(putPeer(q)))
	l, m := lane(key(1), 1), lane(key(1), 2)
	wantSetsJust(t, "one key in two lists", state{lanes: []api.Lane{l}}, state{lanes: []api.Lane{m}}, put(putLane(m)))
	three := state{peers: []api.Peer{p, q, p}, lanes: []api.Lane{l, l, m}}
	wantNoSets(t, "three of one", three, three)
}

// P15.5: what State asks over all rows Sets does not: more peers and lanes than a node has, peers without lanes, two peers with one key or one prefix.
func TestSetsOfWhatIsNoState(t *testing.T) {
	many := full(40, 80)
	wantSets(t, "many new ones", state{}, many)
	wantSets(t, "many that go", many, state{})
	wantSets(t, "fewer", many, full(16, 32))
	wantSetsJust(t, "many that stay", many, many)
	p := pre("10.0.0.0/8")
	odd := state{peers: []api.Peer{peer(1, key(1), p), peer(2, key(1), p)}}
	wantSetsJust(t, "two peers with one key and one prefix, without a lane", state{}, odd, put(putPeer(odd.peers[0])), put(putPeer(odd.peers[1])))
	wantSetsJust(t, "they go", odd, state{}, gone(putPeer(odd.peers[0])), gone(putPeer(odd.peers[1])))
}

// P15.5: any states, held against the plain form.
func TestSetsOfAnyStates(t *testing.T) {
	s := newSampler(7)
	refused := 0
	for range 4000 {
		was, is := s.anyState(), s.anyState()
		wantSets(t, "any states", was, is)
		if _, ok := plainSets(was.peers, is.peers, was.lanes, is.lanes); !ok {
			refused++
		}
	}
	if refused < 300 || refused > 3700 {
		t.Errorf("%d of 4000 are refused", refused)
	}
}

// anyState is of few links and keys, so that two states have much in common; now and then something in it may not be, or comes twice.
func (s sampler) anyState() state {
	var out state
	for link := range 6 {
		if s.IntN(2) == 0 {
			out.peers = append(out.peers, peer(link*200+1, key(s.IntN(3)), rising4(link, s.IntN(3))...))
		}
	}
	for k := range 6 {
		if s.IntN(2) == 0 {
			out.lanes = append(out.lanes, lane(key(k), s.IntN(3)))
		}
	}
	switch s.IntN(20) {
	case 0:
		out.peers = append(out.peers, peer(pick(s, []int{0, 1, 201, maxLink + 1}), key(1)))
	case 1:
		out.lanes = append(out.lanes, lane(pick(s, [][]byte{key(1), key(2), nil, key(9)[:31]}), 2))
	}
	out.peers, out.lanes = shuffled(s, out.peers), shuffled(s, out.lanes)
	return out
}
