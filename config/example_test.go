package config_test

import (
	"bytes"
	"testing"

	"culvert/api"
)

// The examples of the chapter, one behind the other.
func TestExamples(t *testing.T) {
	a, b := bytes.Repeat([]byte{1}, 32), bytes.Repeat([]byte{2}, 32)
	eight, sixteen := pre("10.0.0.0/8"), pre("10.1.0.0/16")
	laneA := func(cur int) api.Lane { return api.Lane{Key: a, Cur: cur} }

	one := conf{[]api.Peer{peer(7, a)}, []api.Lane{laneA(1)}}
	wantDone(t, "the first peer", conf{}, one, add(7, a, 0))
	wantFault(t, "its link", one, 0, api.ErrLinkTwice, add(7, b, 0))
	wantFault(t, "its key", one, 0, api.ErrKeyTwice, add(8, a, 0))
	wantFault(t, "the link 0", one, 0, api.ErrLink, add(0, b, 0))
	wantFault(t, "31 bytes", one, 0, api.ErrKey, add(8, b[:31], 0))
	wantFault(t, "the side 2", one, 0, api.ErrSide, add(8, b, 2))

	two := conf{[]api.Peer{peer(7, a, eight, sixteen)}, one.lanes}
	wantDone(t, "two prefixes", one, two, allow(7, eight), allow(7, sixteen))
	wantDone(t, "two prefixes, the longer one first", one, two, allow(7, sixteen), allow(7, eight))
	wantFault(t, "a prefix that is there", two, 0, api.ErrOverlap, allow(7, eight))
	wantFault(t, "a prefix that is not there", two, 0, api.ErrNoPrefix, deny(7, pre("11.0.0.0/8")))
	wantFault(t, "no prefix", two, 0, api.ErrPrefix, deny(7, api.Prefix{}))

	nine := conf{[]api.Peer{peer(9, a)}, []api.Lane{laneA(2)}}
	wantDone(t, "removed and added", two, nine, remove(7), add(9, a, 0))
	third := conf{nine.peers, []api.Lane{laneA(3)}}
	wantDone(t, "the key that it has", nine, third, setKey(9, a, 0))
	wantFault(t, "the other side", third, 0, api.ErrTurned, setKey(9, a, 1))
	last := conf{[]api.Peer{peer(9, b)}, []api.Lane{laneA(3), {Key: b, Side: 1, Cur: 1}}}
	wantDone(t, "another key", third, last, setKey(9, b, 1))

	wantFault(t, "removed twice", last, 1, api.ErrNoPeer, remove(9), remove(9))
	wantFault(t, "no change", last, 0, api.ErrChange)
	wantFault(t, "a side that is none of its", last, 0, api.ErrChange, api.Change{Kind: 2, Link: 9, Side: 1})
	wantFault(t, "the kind 6", last, 0, api.ErrChange, api.Change{Kind: 6, Link: 9})
}
