package config

import (
	"bytes"
	"slices"

	"culvert/api"
	"culvert/prefix"
)

// check is one thing that a change is asked: where it applies, the change has the fault.
type check struct {
	applies func() bool
	fault   api.Errno
}

// fault is that of the first check that applies; OK, if none does.
func (d *draft) fault(c api.Change) api.Errno {
	for _, one := range d.checks(c) {
		if one.applies() {
			return one.fault
		}
	}
	return api.OK
}

// checks are what the change's kind asks of it, in order. A check leans on those ahead of it: where it is asked, none of them applied.
func (d *draft) checks(c api.Change) []check {
	peer, lane := d.peer(c.Link), d.lane(c.Key)

	noKind := check{func() bool { return true }, api.ErrChange}
	spareKey := check{func() bool { return len(c.Key) > 0 || c.Side != 0 }, api.ErrChange}
	sparePrefix := check{func() bool { return c.Prefix != api.Prefix{} }, api.ErrChange}

	noLink := check{func() bool { return c.Link < 1 || c.Link > api.MaxLink }, api.ErrLink}
	noKey := check{func() bool { return len(c.Key) != api.KeySize }, api.ErrKey}
	noSide := check{func() bool { return c.Side != 0 && c.Side != 1 }, api.ErrSide}
	noPrefix := check{func() bool { return !prefix.Valid(c.Prefix) }, api.ErrPrefix}

	linkTwice := check{func() bool { return peer != nil }, api.ErrLinkTwice}
	noPeer := check{func() bool { return peer == nil }, api.ErrNoPeer}
	keyTwice := check{func() bool { return d.anotherHas(c.Key, c.Link) }, api.ErrKeyTwice}
	manyPeers := check{func() bool { return len(d.peers) >= api.MaxPeers }, api.ErrPeers}

	manyLanes := check{func() bool { return lane == nil && len(d.lanes) >= api.MaxLanes }, api.ErrLanes}
	turned := check{func() bool { return lane != nil && lane.Side != c.Side }, api.ErrTurned}
	noGen := check{func() bool { return lane != nil && newest(*lane) >= api.MaxGen }, api.ErrGen}

	overlap := check{func() bool { return d.allows(c.Prefix) }, api.ErrOverlap}
	manyPrefixes := check{func() bool { return len(peer.Prefixes) >= api.MaxPrefixes }, api.ErrPrefixes}
	notAllowed := check{func() bool { return !slices.Contains(peer.Prefixes, c.Prefix) }, api.ErrNoPrefix}

	switch c.Kind {
	case api.ChAdd:
		return []check{sparePrefix, noLink, noKey, noSide, linkTwice, keyTwice, manyPeers, manyLanes, turned, noGen}
	case api.ChRemove:
		return []check{spareKey, sparePrefix, noLink, noPeer}
	case api.ChSetKey:
		return []check{sparePrefix, noLink, noKey, noSide, noPeer, keyTwice, manyLanes, turned, noGen}
	case api.ChAllow:
		return []check{spareKey, noLink, noPrefix, noPeer, overlap, manyPrefixes}
	case api.ChDeny:
		return []check{spareKey, noLink, noPrefix, noPeer, notAllowed}
	}
	return []check{noKind}
}

// anotherHas tells whether a peer of another link has the key. (Where a peer is added there is none of its link: so any peer is meant.)
func (d *draft) anotherHas(key []byte, link int) bool {
	return slices.ContainsFunc(d.peers, func(p api.Peer) bool { return p.Link != link && bytes.Equal(p.Key, key) })
}

// allows tells whether some peer has just this prefix.
func (d *draft) allows(one api.Prefix) bool {
	return slices.ContainsFunc(d.peers, func(p api.Peer) bool { return slices.Contains(p.Prefixes, one) })
}
