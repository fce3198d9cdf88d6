package rows_test

import (
	"bytes"
	"fmt"
	"slices"
	"testing"

	"culvert/api"
)

// small is a state of which every part can be looked at: the order of the links is neither that of the peers' keys nor that of a list of the links' lowest bytes.
func small() state {
	return state{
		peers: []api.Peer{peer(2, key(9), pres("10.0.0.0/8", "fd00::/8")...), peer(255, key(3)), peer(256, key(5), pre("10.1.0.0/16"))},
		lanes: []api.Lane{lane(key(3), 1), lane(key(5), 2), lane(key(7), 3), lane(key(9), 4)},
		boots: 258,
	}
}

// with are the state's rows, and others behind them.
func (s state) with(l ...api.Row) []api.Row { return append(s.rows(), l...) }

func putPeer(p api.Peer) api.Row {
	r, _ := plainPutPeer(p)
	return r
}

func putLane(l api.Lane) api.Row {
	r, _ := plainPutLane(l)
	return r
}

// orders calls with the list in all its orders.
func orders[T any](l []T, call func([]T)) {
	var grow func(begun, left []T)
	grow = func(begun, left []T) {
		if len(left) == 0 {
			call(begun)
		}
		for i := range left {
			grow(append(slices.Clone(begun), left[i]), slices.Concat(left[:i], left[i+1:]))
		}
	}
	grow(nil, l)
}

// P15.4: no rows are a state.
func TestStateOfNothing(t *testing.T) {
	wantRead(t, "nil", nil, state{})
	wantRead(t, "the empty list", []api.Row{}, state{})
	wantRead(t, "the empty list with spare room", someRows()[:0], state{})
}

// P15.4: peers by link, lanes by key, whatever the order of the list; with the boots' row and without.
func TestStateInAnyOrder(t *testing.T) {
	s := small()
	orders(s.rows()[:7], func(l []api.Row) { // three peers, the boots, three lanes
		wantRead(t, "seven rows", append(l, putLane(s.lanes[3])), s)
	})
	without := s
	without.boots = 0
	wantRead(t, "without boots", without.rows(), without)
	without.peers = nil
	wantRead(t, "lanes alone", without.rows(), without)
	wantRead(t, "boots alone", []api.Row{bootsRow(9)}, state{boots: 9})
	wantRead(t, "boots of 0", []api.Row{bootsRow(0)}, state{})
	wantRead(t, "the most boots", []api.Row{bootsRow(maxBoots)}, state{boots: maxBoots})
	wantRead(t, "lanes and boots of 0", append(without.rows(), bootsRow(0)), without)
	sample := newSampler(3)
	for range 60 {
		s := full(16, 32)
		wantRead(t, "a full state", shuffled(sample, s.rows()), s)
	}
}

// P15.4: links rise as numbers, keys byte by byte.
func TestStateOrders(t *testing.T) {
	var s state
	links := []int{1, 2, 127, 128, 255, 256, 257, 65535, 65536, 1<<24 - 1, 1 << 24, 1<<31 - 1, 1 << 31, maxLink - 1, maxLink}
	first := []byte{0, 1, 2, 9, 10, 0x41, 0x61, 0x7F, 0x80, 0x81, 0xC3, 0xE9, 0xF0, 0xFE, 0xFF}
	for i, x := range first {
		s.lanes = append(s.lanes, lane(append([]byte{x}, bytes.Repeat([]byte{byte(200 - i)}, 31)...), i))
	}
	for i, link := range links {
		s.peers = append(s.peers, peer(link, s.lanes[i*4%15].Key)) // each has another key, since 4 and 15 have no factor in common
	}
	last := bytes.Clone(s.lanes[14].Key)
	last[31]++ // unlike in the last byte alone
	s.lanes = append(s.lanes, lane(last, 99))
	slices.Reverse(s.peers)
	l := s.rows()
	slices.Reverse(s.peers)
	wantRead(t, "falling", l, s)
	slices.Reverse(l)
	wantRead(t, "lanes falling", l, s)
	sample := newSampler(4)
	for range 40 {
		wantRead(t, "shuffled", shuffled(sample, l), s)
	}
}

// P15.4: a row that is none of the three, or that its Get refuses, beside rows that are right: at each place of the list.
func TestStateOfWrongRows(t *testing.T) {
	wrong := map[string]api.Row{
		"the zero row":                {},
		"no key":                      {Value: bootsRow(1).Value},
		"another key":                 {Key: []byte("X"), Value: []byte("v")},
		"another key without a value": {Key: []byte{0}},
		"boots with a longer key":     {Key: []byte("BB"), Value: bootsRow(1).Value},
		"boots of seven bytes":        {Key: []byte("B"), Value: make([]byte, 7)},
		"boots of nine bytes":         {Key: []byte("B"), Value: make([]byte, 9)},
		"too many boots":              bootsRow(maxBoots + 1),
		"boots beyond an int":         bootsRow(1 << 63),
		"a lane with a side of 2":     laneRow(key(20), 2, 1, 0, 0, 0, 0, 0),
		"a lane without a generation": laneRow(key(20), 0, 0, 0, 0, 0, 0, 0),
		"a lane with a wrong stamp":   laneRow(key(20), 0, 1, 0, 0, 0, 0, maxNano+1),
		"a lane with a short key":     laneRow(key(20)[:31], 0, 1, 0, 0, 0, 0, 0),
		"a lane with a long key":      laneRow(append(key(20), 0), 0, 1, 0, 0, 0, 0, 0),
		"a lane with a longer value":  {Key: putLane(lane(key(20), 1)).Key, Value: append(putLane(lane(key(20), 1)).Value, 0)},
		"a peer with the link 0":      peerRow(0, key(7), 0),
		"a peer that lacks a prefix":  peerRow(9, key(7), 1),
		"a peer with a byte more":     peerRow(9, key(7), 0, []byte{0}),
		"a peer whose prefixes fall":  peerRow(9, key(7), 2, laid(pres("12.0.0.0/8", "11.0.0.0/8"))...),
		"a peer with a short key":     peerRow(9, key(7)[:31], 0),
		"a peer with a longer link":   {Key: append(peerRow(9, key(7), 0).Key, 0), Value: peerRow(9, key(7), 0).Value},
	}
	right := small()
	right.boots = 0 // so that wrong boots are not just a key that comes twice
	wantRead(t, "the right ones", right.rows(), right)
	wantRead(t, "with a peer more", right.with(peerRow(9, key(7), 0)), state{slices.Insert(slices.Clone(right.peers), 1, peer(9, key(7))), right.lanes, 0})
	for what, r := range wrong {
		wantRefused(t, what+" alone", []api.Row{r})
		for i := range len(right.rows()) + 1 {
			wantRefused(t, what, slices.Insert(right.rows(), i, r))
		}
	}
}

// P15.4: 16 and 17 peers, 32 and 33 lanes.
func TestStateLimits(t *testing.T) {
	for _, c := range []struct {
		peers, lanes int
		ok           bool
	}{
		{0, 1, true}, {1, 1, true}, {15, 31, true}, {15, 32, true}, {16, 16, true}, {16, 31, true}, {16, 32, true}, {0, 32, true},
		{17, 17, false}, {17, 18, false}, {17, 32, false}, {16, 33, false}, {0, 33, false}, {1, 33, false}, {17, 33, false}, {32, 32, false}, {40, 80, false},
	} {
		s := full(c.peers, c.lanes)
		if _, ok := plainState(s.rows()); ok != c.ok {
			t.Fatalf("%d peers, %d lanes: the plain form says %v", c.peers, c.lanes, ok)
		}
		what := fmt.Sprintf("%d peers, %d lanes", c.peers, c.lanes)
		without := s
		without.boots = 0
		if !c.ok {
			wantRefused(t, what, s.rows())
			wantRefused(t, what+", no boots", without.rows())
			continue
		}
		wantRead(t, what, s.rows(), s)
		wantRead(t, what+", no boots", without.rows(), without)
	}
}

// P15.4: two rows of one key, with one value and with two, wherever they stand.
func TestStateOfOneKeyTwice(t *testing.T) {
	s := small()
	for what, twin := range map[string]api.Row{
		"boots":                   bootsRow(258),
		"other boots":             bootsRow(259),
		"no boots":                bootsRow(0),
		"a peer":                  putPeer(s.peers[1]),
		"a link of another peer":  putPeer(peer(255, key(7))),
		"a link with prefixes":    putPeer(peer(255, key(3), pre("13.0.0.0/8"))),
		"a lane":                  putLane(s.lanes[2]),
		"a lane that says others": putLane(lane(s.lanes[2].Key, 50)),
		"a lane that a peer has":  putLane(lane(s.lanes[1].Key, 50)),
	} {
		for i := range len(s.rows()) + 1 {
			wantRefused(t, what+" twice", slices.Insert(s.rows(), i, twin))
		}
	}
	for _, r := range someRows()[len(somePeers()):] { // lanes and boots stand alone
		wantRefused(t, "a row twice", []api.Row{r, r})
		wantRefused(t, "a row three times", []api.Row{r, r, r})
		wantState(t, "a row once", []api.Row{r})
	}
	whole := s.rows()
	wantRefused(t, "all twice", slices.Concat(whole, whole))
}

// P15.4: two peers with one key, a peer without a lane, a lane without a peer.
func TestStateOfPeersAndLanes(t *testing.T) {
	a, b := lane(key(1), 1), lane(key(2), 2)
	for _, c := range []struct {
		what string
		s    state
		ok   bool
	}{
		{"a peer with its lane", state{peers: []api.Peer{peer(1, key(1))}, lanes: []api.Lane{a}}, true},
		{"a lane without a peer", state{lanes: []api.Lane{a}}, true},
		{"a lane more", state{peers: []api.Peer{peer(1, key(1))}, lanes: []api.Lane{a, b}}, true},
		{"two peers with their lanes", state{peers: []api.Peer{peer(1, key(2)), peer(2, key(1))}, lanes: []api.Lane{a, b}}, true},
		{"a peer without a lane", state{peers: []api.Peer{peer(1, key(1))}}, false},
		{"a peer without a lane, with boots", state{peers: []api.Peer{peer(1, key(1))}, boots: 3}, false},
		{"a peer beside another one's lane", state{peers: []api.Peer{peer(1, key(1))}, lanes: []api.Lane{b}}, false},
		{"two peers, the second without a lane", state{peers: []api.Peer{peer(1, key(1)), peer(2, key(2))}, lanes: []api.Lane{a}}, false},
		{"two peers, the first without a lane", state{peers: []api.Peer{peer(1, key(1)), peer(2, key(2))}, lanes: []api.Lane{b}}, false},
		{"two peers with one key", state{peers: []api.Peer{peer(1, key(1)), peer(2, key(1))}, lanes: []api.Lane{a}}, false},
		{"two peers with one key, and a lane more", state{peers: []api.Peer{peer(1, key(1)), peer(2, key(1))}, lanes: []api.Lane{a, b}}, false},
		{"three peers, the outer two with one key", state{peers: []api.Peer{peer(1, key(1)), peer(2, key(2)), peer(3, key(1))}, lanes: []api.Lane{a, b}}, false},
		{"three peers, the last two with one key", state{peers: []api.Peer{peer(1, key(1)), peer(2, key(2)), peer(3, key(2))}, lanes: []api.Lane{a, b}}, false},
	} {
		l := c.s.rows()
		if _, ok := plainState(l); ok != c.ok {
			t.Fatalf("%s: the plain form says %v", c.what, ok)
		}
		orders(l, func(l []api.Row) {
			wantState(t, c.what, l)
			if !c.ok {
				wantRefused(t, c.what, l)
			}
		})
	}
}

// P15.4: a key and a lane's are the same in all 32 bytes, or they are two.
func TestStateOfKeysAlmostAlike(t *testing.T) {
	for i := range 32 {
		near := key(1)
		near[i] ^= 1
		wantRefused(t, fmt.Sprint("a lane unlike in the byte ", i), []api.Row{putPeer(peer(1, key(1))), putLane(lane(near, 1))})
		both := []api.Lane{lane(key(1), 1), lane(near, 2)}
		if bytes.Compare(near, key(1)) < 0 {
			slices.Reverse(both)
		}
		s := state{peers: []api.Peer{peer(1, key(1)), peer(2, near)}, lanes: both}
		wantRead(t, fmt.Sprint("two keys unlike in the byte ", i), s.rows(), s)
	}
}

// P15.4: two peers with one prefix are none of a state; with prefixes of which one holds the other they are.
func TestStateOfPrefixes(t *testing.T) {
	for _, c := range []struct {
		what string
		a, b []api.Prefix
		ok   bool
	}{
		{"none", nil, nil, true},
		{"unlike ones", pres("10.0.0.0/8"), pres("11.0.0.0/8"), true},
		{"one within the other", pres("10.0.0.0/8"), pres("10.1.0.0/16"), true},
		{"one within the other, by a bit", pres("10.0.0.0/8"), pres("10.0.0.0/9"), true},
		{"all addresses and one", pres("0.0.0.0/0"), pres("10.0.0.1/32"), true},
		{"all addresses of each family", pres("0.0.0.0/0"), pres("::/0"), true},
		{"6, one within the other", pres("fd00::/8"), pres("fd00::/16"), true},
		{"6, unlike in the high half", pres("0:0:0:1::/128"), pres("0:0:0:2::/128"), true},
		{"6, unlike in the low half", pres("::1/128"), pres("::2/128"), true},
		{"one of each within the other's", pres("10.0.0.0/8", "11.1.0.0/16"), pres("11.0.0.0/8", "10.1.0.0/16"), true},
		{"sixteen each", rising4(1, 16), rising4(2, 16), true},
		{"one", pres("10.0.0.0/8"), pres("10.0.0.0/8"), false},
		{"one of 6", pres("fd00::/8"), pres("fd00::/8"), false},
		{"all addresses", pres("0.0.0.0/0"), pres("0.0.0.0/0"), false},
		{"the last of the one, the first of the other", pres("9.0.0.0/8", "10.0.0.0/8"), pres("10.0.0.0/8", "11.0.0.0/8"), false},
		{"the first of the one, the last of the other", pres("10.0.0.0/8", "11.0.0.0/8"), pres("9.0.0.0/8", "10.0.0.0/8"), false},
		{"one between others", pres("1.0.0.0/8", "10.1.0.0/16", "fd00::/8"), pres("2.0.0.0/8", "10.1.0.0/16", "fe00::/8"), false},
		{"the last of sixteen", rising4(1, 16), rising4(1, 16)[15:], false},
		{"sixteen", rising6(1, 16), rising6(1, 16), false},
	} {
		between := pres("77.0.0.0/8")
		s := state{
			peers: []api.Peer{peer(1, key(1), c.a...), peer(2, key(2), between...), peer(3, key(3), c.b...)},
			lanes: []api.Lane{lane(key(1), 1), lane(key(2), 2), lane(key(3), 3)},
		}
		if _, ok := plainState(s.rows()); ok != c.ok {
			t.Fatalf("%s: the plain form says %v", c.what, ok)
		}
		orders(s.rows(), func(l []api.Row) {
			wantState(t, c.what, l)
			if !c.ok {
				wantRefused(t, c.what, l)
			}
		})
	}
}

// P15.4: all lists of up to four of few rows, right and wrong ones, in all orders and with each of them more than once.
func TestStateOfAllSmallLists(t *testing.T) {
	p := pre("10.0.0.0/8")
	few := []api.Row{
		putPeer(peer(1, key(1))), putPeer(peer(1, key(1), p)), putPeer(peer(2, key(1))), putPeer(peer(2, key(2), p)), putPeer(peer(3, key(2))),
		putLane(lane(key(1), 1)), putLane(lane(key(1), 2)), putLane(lane(key(2), 1)),
		bootsRow(0), bootsRow(5), {Key: []byte("Q")},
	}
	level := [][]api.Row{nil}
	for range 5 {
		var next [][]api.Row
		for _, l := range level {
			wantState(t, "few rows", l)
			for _, r := range few {
				next = append(next, append(slices.Clone(l), r))
			}
		}
		level = next
	}
}

// P15.4, P0.1: any rows, held against the plain form.
func TestStateOfAnyRows(t *testing.T) {
	s := newSampler(5)
	taken := 0
	for range 4000 {
		whole := full(s.IntN(18), 16+s.IntN(18))
		l := shuffled(s, whole.rows())
		for range s.IntN(3) {
			i := s.IntN(len(l))
			switch s.IntN(4) {
			case 0:
				l = slices.Delete(l, i, i+1)
			case 1:
				l[i] = pick(s, someRows())
			case 2:
				l[i] = api.Row{Key: l[i].Key, Value: s.spoilt(l[i].Value)}
			case 3:
				l = append(l, api.Row{Key: s.spoilt(l[i].Key), Value: l[i].Value})
			}
		}
		wantState(t, "any rows", l)
		if _, ok := plainState(l); ok {
			taken++
		}
	}
	if taken < 500 || taken > 3500 {
		t.Errorf("%d of 4000 lists are states", taken)
	}
}
