package world

import "culvert/api"

// look tells how a node stands, its device, and what goes to it.
func (p *parts) look(op api.Op) ([]api.Event, api.Errno) {
	n, a := p.ends[op.A], op.A
	all := []api.Event{{Kind: api.EvNode, A: a, M: n.Done()}}
	if n.up() {
		all[0].K = 1
		all = append(all, n.tell(a)...)
	}
	for _, w := range n.Pending() {
		all = append(all, api.Event{Kind: api.EvPending, A: a, K: w.Sector})
	}
	for _, f := range p.Under() {
		if f.To == a {
			all = append(all, api.Event{Kind: api.EvFlight, Flight: f})
		}
	}
	return all, api.OK
}

// tell tells what a node that is up has: its boots, its peers, its lanes.
func (n end) tell(a int) []api.Event {
	all := []api.Event{n.lives(a)}
	for _, peer := range n.node.Peers() {
		all = append(all, api.Event{Kind: api.EvPeer, A: a, Peer: peer})
	}
	for _, lane := range n.node.Lanes() {
		all = append(all, api.Event{Kind: api.EvLane, A: a, Lane: lane})
	}
	return all
}
