package rows

import (
	"bytes"
	"slices"

	"culvert/api"
)

// gathered are the rows of a state: values by their keys.
type gathered map[string][]byte

// gather takes rows together. Of two with one key just one is left: so a count tells whether there were such.
func gather(l []api.Row) gathered {
	g := gathered{}
	for _, r := range l {
		g[string(r.Key)] = r.Value
	}
	return g
}

// inOrder are the rows, keys rising; the values are still those that were gathered.
func (g gathered) inOrder() []api.Row {
	var l []api.Row
	for key, value := range g {
		l = append(l, api.Row{Key: []byte(key), Value: value})
	}
	slices.SortFunc(l, func(a, b api.Row) int { return bytes.Compare(a.Key, b.Key) })
	return l
}

// takeAll is what a Put or a Get makes of each of a list, in the list's order, without those that it refuses.
func takeAll[From, To any](l []From, take func(From) (To, api.Errno)) []To {
	var out []To
	for _, one := range l {
		if to, e := take(one); e == api.OK {
			out = append(out, to)
		}
	}
	return out
}

// State reads all rows of a state.
func State(l []api.Row) ([]api.Peer, []api.Lane, int, api.Errno) {
	// The order of the keys is that of the links, and that of the lanes' keys.
	ordered := gather(l).inOrder()
	peers := takeAll(ordered, GetPeer)
	lanes := takeAll(ordered, GetLane)
	boots := takeAll(ordered, GetBoots)
	// No row is read by two of them. So one that is none of the three, or that has another one's key, is missing in the sum.
	if len(peers)+len(lanes)+len(boots) != len(l) || !standTogether(peers, lanes) {
		return nil, nil, 0, api.ErrRow
	}
	if len(boots) == 0 {
		return peers, lanes, 0, api.OK
	}
	return peers, lanes, boots[0], api.OK
}

// standTogether tells whether peers and lanes, each of which may be, may be those of one state.
func standTogether(peers []api.Peer, lanes []api.Lane) bool {
	if len(peers) > api.MaxPeers || len(lanes) > api.MaxLanes {
		return false
	}
	for i, p := range peers {
		hasKey := func(l api.Lane) bool { return bytes.Equal(l.Key, p.Key) }
		clashes := func(q api.Peer) bool { return bytes.Equal(q.Key, p.Key) || shareOne(q.Prefixes, p.Prefixes) }
		if !slices.ContainsFunc(lanes, hasKey) || slices.ContainsFunc(peers[:i], clashes) {
			return false
		}
	}
	return true
}

// shareOne tells whether a prefix stands in both lists.
func shareOne(a, b []api.Prefix) bool {
	return slices.ContainsFunc(a, func(p api.Prefix) bool { return slices.Contains(b, p) })
}

// Sets tells what turns one state into another.
func Sets(peers, newPeers []api.Peer, lanes, newLanes []api.Lane) ([]api.Set, api.Errno) {
	was, wasRight := rowsOf(peers, lanes)
	is, isRight := rowsOf(newPeers, newLanes)
	if !wasRight || !isRight {
		return nil, api.ErrRow
	}
	return unlike(was, is), api.OK
}

// rowsOf are the rows of peers and lanes; false, if one of them may not be, or two have one row's key.
func rowsOf(peers []api.Peer, lanes []api.Lane) (gathered, bool) {
	l := append(takeAll(peers, PutPeer), takeAll(lanes, PutLane)...)
	g := gather(l)
	return g, len(g) == len(peers)+len(lanes)
}

// unlike are the sets that make of the rows that were those that are. The values go out as they lie in the rows.
func unlike(was, is gathered) []api.Set {
	var l []api.Set
	for key, value := range is {
		if old, there := was[key]; !there || !bytes.Equal(old, value) {
			l = append(l, api.Set{Key: []byte(key), Value: value})
		}
	}
	for key := range was {
		if _, there := is[key]; !there {
			l = append(l, api.Set{Key: []byte(key), Gone: true})
		}
	}
	slices.SortFunc(l, func(a, b api.Set) int { return bytes.Compare(a.Key, b.Key) })
	return l
}
