package node

import (
	"errors"

	"culvert/api"
	"culvert/rows"
)

// stop is what has stopped a node.
type stop struct{ cause api.Errno }

func (s stop) Error() string { return "the node is stopped: " + s.cause.Error() }

func (s stop) Unwrap() error { return s.cause }

// why is what has stopped the node; nil, if nothing has. Behind a refusal no claim can stop it any more.
func (n *Node) why() error {
	if n.refusal != nil {
		return n.refusal
	}
	if n.store.Ended() {
		return stop{api.ErrEnded}
	}
	return nil
}

func (n *Node) stopped() bool { return n.why() != nil }

// state is what the rows say: the peers, the lanes, the boots. Of a stopped node the store has ended, and has no rows.
func (n *Node) state() ([]api.Peer, []api.Lane, int) {
	peers, lanes, boots, _ := rows.State(n.store.Rows()) // no error: Boot has asked, and since then only states were committed
	return peers, lanes, boots
}

// commit commits sets; a refusal of the device stops the node.
func (n *Node) commit(l []api.Set) api.Errno {
	e := n.store.Commit(l)
	if refuses(e) {
		n.refusal = stop{e}
	}
	return told(e)
}

// commitLane commits a lane: this is what sessions are handed.
func (n *Node) commitLane(l api.Lane) api.Errno {
	row, _ := rows.PutLane(l) // no error: a session's lane may be
	return n.commit(setOf(row))
}

func setOf(r api.Row) []api.Set { return []api.Set{{Key: r.Key, Value: r.Value}} }

// refuses tells whether an error is the device's refusal.
func refuses(e error) bool { return errors.Is(e, api.ErrIO) || errors.Is(e, api.ErrPower) }

// told is an error of the store as a node tells it.
func told(e api.Errno) api.Errno {
	if refuses(e) {
		return api.ErrDevice
	}
	return e
}
