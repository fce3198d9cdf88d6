package node

import (
	"bytes"
	"slices"

	"culvert/api"
	"culvert/disk"
	"culvert/route"
	"culvert/rows"
	"culvert/session"
	"culvert/store"
)

// Boot begins a life over a device.
func Boot(d *disk.Disk, p api.Params) (*Node, api.Errno) {
	if !mayBe(p) {
		return nil, api.ErrParams
	}
	s, e := store.Open(d)
	if e != api.OK {
		return nil, told(e)
	}
	peers, lanes, boots, e := rows.State(s.Rows())
	if e != api.OK {
		return nil, e
	}
	if boots == api.MaxSeq {
		return nil, api.ErrSeqs
	}
	n := &Node{store: s, params: p}
	row, _ := rows.PutBoots(boots + 1) // no error: it is not above the bound
	if e := n.commit(setOf(row)); e != api.OK {
		return nil, e
	}
	n.turn(peers, lanes)
	return n, api.OK
}

// mayBe tells whether a life may have these params.
func mayBe(p api.Params) bool {
	return within(p.Block, 1, api.MaxBlock) && within(p.Width, api.MinWidth, api.MaxWidth) && p.Width%64 == 0
}

func within(number, least, most int) bool { return least <= number && number <= most }

// turn makes route and sessions those of a configuration. A session goes on where its lane is what it was: the lane has the key, and the session is asked for by the link.
func (n *Node) turn(peers []api.Peer, lanes []api.Lane) {
	was := n.sessions
	n.route, n.sessions = routeOf(peers), map[int]*session.Session{}
	for _, p := range peers {
		l := laneOf(lanes, p.Key)
		s := was[p.Link]
		if s == nil || !alike(s.Lane(), l) {
			s = session.New(p, l, n.params)
		}
		n.sessions[p.Link] = s
	}
}

// routeOf is the table of all prefixes of peers.
func routeOf(peers []api.Peer) *route.Table {
	t := route.New()
	for _, peer := range peers {
		for _, p := range peer.Prefixes {
			t, _ = t.With(p, peer.Link) // no error: in a configuration no prefix stands twice
		}
	}
	return t
}

// laneOf is the lane of a peer's key: in a configuration there is one.
func laneOf(lanes []api.Lane, key []byte) api.Lane {
	at := slices.IndexFunc(lanes, func(l api.Lane) bool { return bytes.Equal(l.Key, key) })
	return lanes[at]
}

func alike(a, b api.Lane) bool {
	return bytes.Equal(a.Key, b.Key) && a.Side == b.Side && a.Cur == b.Cur && a.Next == b.Next &&
		a.SendCur == b.SendCur && a.Ceil == b.Ceil && a.Seen == b.Seen
}
