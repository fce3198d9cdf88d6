package node_test

import (
	"bytes"
	"math/big"
	"net/netip"
	"slices"

	"culvert/api"
	"culvert/config"
	"culvert/disk"
	"culvert/route"
	"culvert/rows"
	"culvert/session"
	"culvert/store"
)

// plain is a node as the chapter's words say it: lists of peers and lanes beside a store, a session for each peer, the claim that its Open took. It stands over a device of its own, which must be, behind each call, just what the node's device is. The layers below are those that the words name.
type plain struct {
	d        *disk.Disk
	store    *store.Store
	claim    int
	params   api.Params
	peers    []api.Peer
	lanes    []api.Lane
	boots    int
	sessions map[int]*session.Session
	clock    api.Stamp
	refusal  api.Errno // that has stopped it; 0, if none has
}

func paramsMayBe(p api.Params) bool {
	width := big.NewInt(int64(p.Width))
	return p.Block >= 1 && p.Block <= 1048576 && p.Width >= 64 && p.Width <= 1024 && new(big.Int).Mod(width, big.NewInt(64)).Sign() == 0
}

func plainBoot(d *disk.Disk, p api.Params) (*plain, api.Errno) {
	if !paramsMayBe(p) {
		return nil, 202
	}
	s, e := store.Open(d)
	switch e {
	case 0:
	case 103, 104:
		return nil, 201
	default:
		return nil, e
	}
	n := &plain{d: d, store: s, claim: d.Claimed(), params: p, sessions: map[int]*session.Session{}}
	n.peers, n.lanes, n.boots, e = rows.State(s.Rows())
	if e != 0 {
		return nil, 114
	}
	if n.boots == 1<<62 {
		return nil, 113
	}
	n.boots++
	if e := n.commit(setsOf(rowsOf(nil, nil, n.boots))); e != 0 {
		return nil, e
	}
	for _, one := range n.peers {
		n.sessions[one.Link] = session.New(one, n.lane(one.Key), p)
	}
	return n, 0
}

func (n *plain) stopped() bool { return n.refusal != 0 || n.d.Claimed() != n.claim }

func (n *plain) commit(l []api.Set) api.Errno {
	e := n.store.Commit(l)
	if e == 103 || e == 104 {
		n.refusal = e
		return 201
	}
	return e
}

// commitLane is what sessions are handed: behind it the list has the lane.
func (n *plain) commitLane(l api.Lane) api.Errno {
	if e := n.commit(setsOf(rowsOf(nil, []api.Lane{l}, -1))); e != 0 {
		return e
	}
	for i, one := range n.lanes {
		if bytes.Equal(one.Key, l.Key) {
			n.lanes[i] = withLane(l, func(*api.Lane) {})
		}
	}
	return 0
}

func laneAmong(lanes []api.Lane, key []byte) (api.Lane, bool) {
	for _, l := range lanes {
		if bytes.Equal(l.Key, key) {
			return l, true
		}
	}
	return api.Lane{}, false
}

func (n *plain) lane(key []byte) api.Lane {
	l, _ := laneAmong(n.lanes, key)
	return l
}

func (n *plain) peer(link int) (api.Peer, bool) {
	for _, p := range n.peers {
		if p.Link == link {
			return p, true
		}
	}
	return api.Peer{}, false
}

// finds goes through all prefixes of all peers: the link of the longest one that holds an address, or 0.
func (n *plain) finds(a netip.Addr) int {
	link, bits := 0, -1
	for _, peer := range n.peers {
		for _, p := range peer.Prefixes {
			if one := prefixOf(p); one.Contains(a) && one.Bits() > bits {
				link, bits = peer.Link, one.Bits()
			}
		}
	}
	return link
}

// table is the route, made in another order than that of the peers.
func (n *plain) table() *route.Table {
	t := route.New()
	for _, peer := range slices.Backward(n.peers) {
		for _, p := range slices.Backward(peer.Prefixes) {
			var e api.Errno
			if t, e = t.With(p, peer.Link); e != 0 {
				panic(e)
			}
		}
	}
	return t
}

// answer is all that a call tells.
type answer struct {
	link   int
	packet []byte
	taken  api.Taken
	err    api.Errno
}

func same(a, b answer) bool {
	return a.link == b.link && bytes.Equal(a.packet, b.packet) && a.err == b.err &&
		a.taken.Kind == b.taken.Kind && a.taken.Link == b.taken.Link && a.taken.Code == b.taken.Code && bytes.Equal(a.taken.Data, b.taken.Data)
}

func (n *plain) do(c call) answer {
	if n.stopped() {
		return answer{err: 200}
	}
	switch c.kind {
	case "Commit":
		return answer{err: n.change(c.changes)}
	case "Send":
		return n.send(c.data)
	case "Rekey":
		return n.rekey(c.link)
	case "Tick":
		return answer{err: n.tick(c.stamp)}
	}
	return n.take(c.data)
}

func (n *plain) change(l []api.Change) api.Errno {
	peers, lanes, _, e := config.Judge(n.peers, n.lanes, l)
	if e != 0 {
		return e
	}
	sets, e := rows.Sets(n.peers, peers, n.lanes, lanes)
	if e != 0 {
		panic(e)
	}
	if e := n.commit(sets); e != 0 {
		return e
	}
	sessions := map[int]*session.Session{}
	for _, p := range peers {
		was, there := n.peer(p.Link)
		before, had := laneAmong(n.lanes, p.Key)
		now, _ := laneAmong(lanes, p.Key)
		if there && bytes.Equal(was.Key, p.Key) && had && sameLane(before, now) {
			sessions[p.Link] = n.sessions[p.Link]
		} else {
			sessions[p.Link] = session.New(p, now, n.params)
		}
	}
	n.peers, n.lanes, n.sessions = peers, lanes, sessions
	return 0
}

func (n *plain) send(payload []byte) answer {
	_, dst, ok := ends(payload)
	if !ok {
		return answer{err: 203}
	}
	link := n.finds(dst)
	if link == 0 {
		return answer{err: 204}
	}
	b, e := n.sessions[link].Send(payload, n.commitLane)
	if e != 0 {
		return answer{err: e}
	}
	return answer{link: link, packet: b}
}

func (n *plain) rekey(link int) answer {
	if link < 1 || link > maxLink {
		return answer{err: 161}
	}
	if _, there := n.peer(link); !there {
		return answer{err: 169}
	}
	b, e := n.sessions[link].Rekey(n.clock, n.commitLane)
	if e != 0 {
		return answer{err: e}
	}
	return answer{packet: b}
}

func (n *plain) tick(s api.Stamp) api.Errno {
	if s.Sec < 0 || s.Nano < 0 || s.Nano > maxNano {
		return 207
	}
	n.clock = s
	return 0
}

func (n *plain) take(b []byte) answer {
	h, ok := readHead(b)
	if !ok {
		return answer{taken: api.Taken{Kind: 1, Code: 210}}
	}
	if _, there := n.peer(h.Link); !there {
		return answer{taken: api.Taken{Kind: 1, Code: 211}}
	}
	x, e := n.sessions[h.Link].Take(b, n.table(), n.commitLane)
	if e != 0 {
		return answer{err: e}
	}
	return answer{taken: x}
}

// told is all that the looks tell.
type told struct {
	peers []api.Peer
	lanes []api.Lane
	boots int
	views map[int]api.View // of those links that have one
	down  bool
	why   api.Errno // of which errors.Is says true, among ErrIO, ErrPower and ErrEnded; 0, if there is no error
}

func (n *plain) tell() told {
	if n.stopped() {
		why := n.refusal
		if why == 0 {
			why = 115
		}
		return told{down: true, why: why, views: map[int]api.View{}}
	}
	out := told{boots: n.boots, views: map[int]api.View{}}
	for _, p := range n.peers {
		out.peers = append(out.peers, copiedPeer(p))
		out.views[p.Link] = n.sessions[p.Link].View()
	}
	for _, l := range n.lanes {
		out.lanes = append(out.lanes, withLane(l, func(*api.Lane) {}))
	}
	return out
}

func copiedPeer(p api.Peer) api.Peer {
	p.Key, p.Prefixes = slices.Clone(p.Key), slices.Clone(p.Prefixes)
	return p
}

func sameLane(a, b api.Lane) bool {
	return bytes.Equal(a.Key, b.Key) && a.Side == b.Side && a.Cur == b.Cur && a.Next == b.Next && a.SendCur == b.SendCur && a.Ceil == b.Ceil && a.Seen == b.Seen
}

func samePeer(a, b api.Peer) bool {
	return a.Link == b.Link && bytes.Equal(a.Key, b.Key) && slices.Equal(a.Prefixes, b.Prefixes)
}

func sameView(a, b api.View) bool {
	return a.At == b.At && a.Floor == b.Floor && a.Top == b.Top && a.HasTop == b.HasTop && a.Last == b.Last && slices.Equal(a.Olds, b.Olds) && slices.Equal(a.Openings, b.Openings)
}

// sameState: peers and lanes alone.
func sameState(a, b told) bool {
	return slices.EqualFunc(a.peers, b.peers, samePeer) && slices.EqualFunc(a.lanes, b.lanes, sameLane)
}

func sameTold(a, b told) bool {
	if !sameState(a, b) || a.boots != b.boots || a.down != b.down || a.why != b.why || len(a.views) != len(b.views) {
		return false
	}
	for link, v := range a.views {
		w, there := b.views[link]
		if !there || !sameView(v, w) {
			return false
		}
	}
	return true
}
