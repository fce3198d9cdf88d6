package audit_test

import (
	"fmt"
	"testing"

	"culvert/api"
	"culvert/node"
)

// P24.5: a Boot, with any params that may be, finds what State tells, and its boots are one more; behind it State tells these.
func TestBootFinds(t *testing.T) {
	t.Parallel()
	peers, lanes := full(16, 32)
	for what, s := range map[string]state{
		"nothing":           {},
		"boots":             {boots: 41},
		"the boots but one": {boots: maxSeq - 1},
		"lanes alone":       {lanes: lanes[:3], boots: 1},
		"a peer":            {peers: []api.Peer{peerOf(7, key(1), "10.0.0.0/8")}, lanes: []api.Lane{newLane(key(1), 1)}, boots: 9},
		"all that may be":   {peers: peers, lanes: lanes, boots: 5},
	} {
		b := logged(64, 3, 9, setBytes(rowsOf(s.peers, s.lanes, s.boots)...)).bytes()
		for _, p := range []api.Params{params(1, 64), params(1<<20, 64), params(7, 1024), params(64, 128)} {
			wantState(t, what, b, s)
			wantBoot(t, what, b, p)
			d := imaged(t, b)
			n := boot(t, d, p)
			if n.Boots() != s.boots+1 {
				t.Fatalf("%s: %d boots behind %d", what, n.Boots(), s.boots)
			}
			wantState(t, what+", behind a Boot", d.Durable(), state{peers: s.peers, lanes: s.lanes, boots: s.boots + 1})
			wantSound(t, what+", behind a Boot", d.Durable())
		}
	}
}

// P24.5: at the most boots State tells them still, and a Boot answers ErrSeqs.
func TestBootAtMostBoots(t *testing.T) {
	t.Parallel()
	s := state{lanes: []api.Lane{newLane(key(1), 1)}, boots: maxSeq - 1}
	d := imaged(t, logged(32, 3, 9, setBytes(rowsOf(nil, s.lanes, s.boots)...)).bytes())
	boot(t, d, params(1, 64))
	s.boots = maxSeq
	for range 3 {
		b := d.Durable()
		wantState(t, "the most boots", b, s)
		wantLines(t, "the most boots", b)
		n, e := node.Boot(imaged(t, b), params(1, 64))
		if n != nil || e != errSeqs {
			t.Fatalf("Boot = %v, %d", n, e)
		}
		if n, e := node.Boot(d, params(1, 64)); n != nil || e != errSeqs {
			t.Fatalf("Boot = %v, %d", n, e)
		}
	}
}

// P24.1, P24.5: where a Boot finds no store, or none that it can take, State answers the same error.
func TestBootRefused(t *testing.T) {
	t.Parallel()
	boots := setBytes(rowsOf(nil, nil, 3)...)
	for e, m := range map[api.Errno]image{
		errNoStore: zeros(32),
		errSeqs:    logged(32, 5, maxSeq, nil, boots),
		errRow:     logged(32, 5, 9, []byte("x")),
	} {
		wantState(t, fmt.Sprint("the error ", int(e)), m.bytes(), state{err: e})
		n, got := node.Boot(imaged(t, m.bytes()), params(1, 64))
		if n != nil || got != e {
			t.Errorf("Boot = %v, %d, want %d", n, got, e)
		}
	}
	m := logged(32, 5, 9, setBytes(api.Set{Key: []byte("X")}))
	wantState(t, "a row of no kind", m.bytes(), state{err: errRow})
	if n, got := node.Boot(imaged(t, m.bytes()), params(1, 64)); n != nil || got != errRow {
		t.Errorf("Boot = %v, %d", n, got)
	}
}
