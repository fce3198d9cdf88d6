package config_test

import (
	"bytes"
	"fmt"
	"slices"
	"testing"

	"culvert/api"
)

// P16.1: a peer more, with its link and key and no prefixes, and a lane more; all else stays.
func TestAdd(t *testing.T) {
	was := small()
	want := conf{slices.Insert(small().peers, 1, peer(5, key(50))), append(small().lanes, api.Lane{Key: key(50), Side: 1, Cur: 1})}
	wantDone(t, "a new key", was, want, add(5, key(50), 1))
	want = conf{slices.Insert(small().peers, 1, peer(5, key(4))), small().lanes}
	want.lanes[3] = api.Lane{Key: key(4), Cur: 9, Next: 8, Seen: was.lanes[3].Seen}
	wantDone(t, "a lane's key", was, want, add(5, key(4), 0))
	wantDone(t, "the first one", conf{}, conf{[]api.Peer{peer(1, key(1))}, []api.Lane{{Key: key(1), Side: 1, Cur: 1}}}, add(1, key(1), 1))
	wantDone(t, "the first one beside a lane", conf{lanes: []api.Lane{lane(key(2), 0, 3, 0)}},
		conf{[]api.Peer{peer(1, key(1))}, []api.Lane{{Key: key(1), Cur: 1}, lane(key(2), 0, 3, 0)}}, add(1, key(1), 0))
}

// P16.1: the peer is gone with its prefixes, its lane stays as it is, and so does all else; its link, its key and its prefixes are free.
func TestRemove(t *testing.T) {
	for i, p := range small().peers {
		want := conf{slices.Delete(small().peers, i, i+1), small().lanes}
		wantDone(t, fmt.Sprint("the peer ", p.Link), small(), want, remove(p.Link))
		wantFault(t, "its prefix", small(), 1, api.ErrNoPeer, remove(p.Link), deny(p.Link, pre("10.0.0.0/8")))
	}
	alone := conf{[]api.Peer{peer(9, key(1), pres("10.0.0.0/8")...)}, []api.Lane{lane(key(1), 1, 4, 5)}}
	wantDone(t, "the last peer", alone, conf{lanes: alone.lanes}, remove(9))
	want := conf{[]api.Peer{peer(8, key(2), pre("10.0.0.0/8")), peer(9, key(1))}, []api.Lane{{Key: key(1), Side: 1, Cur: 6, Next: 5, Seen: alone.lanes[0].Seen}, {Key: key(2), Cur: 1}}}
	wantDone(t, "link, key and prefix taken again", alone, want, remove(9), add(8, key(2), 0), allow(8, pre("10.0.0.0/8")), add(9, key(1), 1))
	wantDone(t, "all of them", small(), conf{lanes: small().lanes}, remove(3), remove(maxLink), remove(7))
}

// P16.1: the peer has another key and its prefixes still; the lane of the key that it had stays as it is.
func TestSetKey(t *testing.T) {
	for i, p := range small().peers {
		want := conf{small().peers, append(small().lanes, api.Lane{Key: key(50), Side: 1, Cur: 1})}
		want.peers[i].Key = key(50)
		wantDone(t, fmt.Sprint("a new key of ", p.Link), small(), want, setKey(p.Link, key(50), 1))
		want = conf{small().peers, small().lanes}
		want.peers[i].Key = key(4)
		want.lanes[3] = api.Lane{Key: key(4), Cur: 9, Next: 8, Seen: small().lanes[3].Seen}
		wantDone(t, fmt.Sprint("a lane's key of ", p.Link), small(), want, setKey(p.Link, key(4), 0))
	}
	want := small()
	want.lanes[1] = api.Lane{Key: key(2), Side: 1, Cur: 10, Next: 9, Seen: want.lanes[1].Seen}
	wantDone(t, "the key that it has", small(), want, setKey(3, key(2), 1))
	// The key that is gone is free for another peer; two peers can't trade keys without a third one.
	wantFault(t, "the other one's key", small(), 0, api.ErrKeyTwice, setKey(3, key(1), 0), setKey(7, key(2), 1))
	traded := small()
	traded.peers[0].Key, traded.peers[1].Key = key(1), key(2)
	traded.lanes[0] = api.Lane{Key: key(1), Cur: 6, Next: 2, Seen: traded.lanes[0].Seen}
	traded.lanes[1] = api.Lane{Key: key(2), Side: 1, Cur: 10, Next: 9, Seen: traded.lanes[1].Seen}
	traded.lanes = append(traded.lanes, api.Lane{Key: key(50), Cur: 1})
	wantDone(t, "keys traded by a third one", small(), traded, setKey(3, key(50), 0), setKey(7, key(2), 1), setKey(3, key(1), 0))
}

// P16.1: one prefix more, one fewer; the lanes stay as they are.
func TestAllowAndDeny(t *testing.T) {
	want := small()
	want.peers[2].Prefixes = pres("::/0")
	wantDone(t, "the first prefix", small(), want, allow(maxLink, pre("::/0")))
	wantDone(t, "and it goes", want, small(), deny(maxLink, pre("::/0")))
	for i, p := range small().peers {
		for k, one := range p.Prefixes {
			want := small()
			want.peers[i].Prefixes = slices.Delete(want.peers[i].Prefixes, k, k+1)
			wantDone(t, fmt.Sprint("denied: ", one), small(), want, deny(p.Link, one))
			wantDone(t, fmt.Sprint("allowed again: ", one), want, small(), allow(p.Link, one))
			wantDone(t, fmt.Sprint("denied and allowed: ", one), small(), small(), deny(p.Link, one), allow(p.Link, one))
			wantFault(t, fmt.Sprint("denied twice: ", one), small(), 1, api.ErrNoPrefix, deny(p.Link, one), deny(p.Link, one))
		}
	}
}

// inAllOrders calls with the list in all its orders.
func inAllOrders[T any](l []T, call func([]T)) {
	var grow func(begun, left []T)
	grow = func(begun, left []T) {
		if len(left) == 0 {
			call(begun)
		}
		for i := range left {
			grow(append(slices.Clone(begun), left[i]), slices.Concat(left[:i], left[i+1:]))
		}
	}
	grow(nil, l)
}

// Words, P16.5: peers by link, lanes by key, prefixes by prefix.Compare, in whatever order they come.
func TestOrders(t *testing.T) {
	keys := [][]byte{make([]byte, 32), append(make([]byte, 31), 1), bytes.Repeat([]byte{0x7F}, 32), bytes.Repeat([]byte{0x80}, 32), append(bytes.Repeat([]byte{0xFF}, 31), 0xFE), bytes.Repeat([]byte{0xFF}, 32)}
	links := []int{1, 9, 10, 256, 1 << 31, maxLink} // as texts, or by their lowest byte, they would stand otherwise
	inAllOrders([]int{0, 1, 2, 3, 4, 5}, func(order []int) {
		var l []api.Change
		want := conf{make([]api.Peer, 6), make([]api.Lane, 6)}
		for i, k := range order {
			at := order[(i+2)%6] // the links come in another order than the keys
			l = append(l, add(links[at], keys[k], k%2))
			want.peers[at] = peer(links[at], keys[k])
			want.lanes[k] = api.Lane{Key: keys[k], Side: k % 2, Cur: 1}
		}
		wantDone(t, fmt.Sprint("the order ", order), conf{}, want, l...)
	})
}

// Words, P16.5: prefixes by family, then bits, then the address, in whatever order they come.
func TestOrderOfPrefixes(t *testing.T) {
	rising := pres("200.0.0.0/6", "9.0.0.0/8", "10.0.0.0/8", "1.0.0.0/9", "::/7", "0:0:0:1::/64", "1::/64")
	was := conf{[]api.Peer{peer(7, key(1))}, []api.Lane{lane(key(1), 1, 1, 0)}}
	inAllOrders(rising, func(order []api.Prefix) {
		var l []api.Change
		for _, p := range order {
			l = append(l, allow(7, p))
		}
		wantDone(t, fmt.Sprint("the order ", order), was, conf{[]api.Peer{peer(7, key(1), rising...)}, was.lanes}, l...)
	})
}

// Words, P16.5: a new one falls at each place of a list, also of the longest.
func TestEachPlace(t *testing.T) {
	var all conf
	for i := range 16 {
		all.peers = append(all.peers, peer(10+10*i, key(1000-i), many(i, 1)...))
	}
	for i := range 32 {
		all.lanes = append(all.lanes, lane(key(1000-31+i), i%2, 1+i, 0))
	}
	all.peers[3].Prefixes = many(500, 16)
	wantConf(t, "all", all)
	for i := range 16 {
		p := all.peers[i]
		was := conf{slices.Concat(all.peers[:i], all.peers[i+1:]), all.lanes}
		k := slices.IndexFunc(all.lanes, func(l api.Lane) bool { return bytes.Equal(l.Key, p.Key) })
		wantDone(t, fmt.Sprint("the peer ", i), was, plainDone(was, add(p.Link, p.Key, all.lanes[k].Side)), add(p.Link, p.Key, all.lanes[k].Side))
		one := all.peers[3].Prefixes[i]
		wantDone(t, fmt.Sprint("the prefix ", i), all, all, deny(40, one), allow(40, one))
	}
	for i := range 16 { // the first half of the lanes are nobody's
		was := conf{all.peers, slices.Concat(all.lanes[:i], all.lanes[i+1:])}
		want := conf{slices.Clone(all.peers), slices.Clone(all.lanes)}
		want.peers[5].Key = all.lanes[i].Key
		want.lanes[i] = api.Lane{Key: all.lanes[i].Key, Side: i % 2, Cur: 1}
		wantDone(t, fmt.Sprint("the lane ", i), was, want, setKey(60, all.lanes[i].Key, i%2))
	}
	last := key(2000)
	want := conf{slices.Clone(all.peers), append(slices.Clone(all.lanes[1:]), api.Lane{Key: last, Cur: 1})}
	want.peers[0].Key = last
	wantDone(t, "the last lane", conf{all.peers, all.lanes[1:]}, want, setKey(10, last, 0))
}
