package node_test

import (
	"bytes"
	"slices"
	"testing"

	"culvert/api"
	"culvert/node"
)

// Every call of both (want_test.go) hands in lists in the midst of longer ones, holds these against what they were, and writes over them behind the call; and it writes over all that is handed out, spare room too, and then asks that nothing else shows it. What follows says the same by itself.

// given is all lists that nodes have handed out.
type given struct {
	bytes    [][]byte
	olds     [][]int
	openings [][]api.Opening
	prefixes [][]api.Prefix
	peers    [][]api.Peer
	lanes    [][]api.Lane
}

func (g *given) look(n *node.Node, links ...int) {
	peers, lanes := n.Peers(), n.Lanes()
	for _, p := range peers {
		g.bytes, g.prefixes = append(g.bytes, p.Key), append(g.prefixes, p.Prefixes)
	}
	for _, l := range lanes {
		g.bytes = append(g.bytes, l.Key)
	}
	for _, link := range links {
		v, _ := n.View(link)
		g.olds, g.openings = append(g.olds, v.Olds), append(g.openings, v.Openings)
	}
	g.peers, g.lanes = append(g.peers, peers), append(g.lanes, lanes)
}

// calls are a history in which lists of all kinds are handed out.
func calls() []call {
	payload := pay("10.7.0.1", "10.7.0.2", "hello")
	out := []call{commit(add(7, key(1), 0), allow(7, "10.7.0.0/16"), allow(7, "fd00::/16"), add(8, key(2), 1), allow(8, "10.8.0.0/16")), tick(stampOf(4, 0))}
	for i := range 6 {
		gen := 1 + 3*i
		out = append(out, send(payload), take(sealed(key(1), 1, headOf(pkData, 7, gen, 30), payload)), rekey(7), rekey(8), rekey(7),
			take(sealed(key(1), 1, headOf(pkInit, 7, gen+3, 0), stampBytes(stampOf(9, i)))), send(pay("10.7.0.1", "10.8.0.1", "x")))
	}
	return append(out, commit(allow(8, "11.0.0.0/8"), setKey(8, key(3), 0)))
}

// plays does the calls over a device of its own, and gathers all that is handed out.
func plays(t *testing.T) (*node.Node, given) {
	t.Helper()
	var g given
	n, e := node.Boot(formatted(t, 64), params(1, 64))
	wantErr(t, "Boot", e, api.OK)
	for _, c := range calls() {
		switch c.kind {
		case "Commit":
			e = n.Commit(c.changes)
		case "Send":
			var b []byte
			_, b, e = n.Send(c.data)
			g.bytes = append(g.bytes, b)
		case "Rekey":
			var b []byte
			b, e = n.Rekey(c.link)
			g.bytes = append(g.bytes, b)
		case "Tick":
			e = n.Tick(c.stamp)
		case "Take":
			var x api.Taken
			x, e = n.Take(c.data)
			if x.Kind == api.TkDropped {
				t.Fatalf("%v: dropped by %d", c, x.Code)
			}
			g.bytes = append(g.bytes, x.Data)
		}
		wantErr(t, c.String(), e, api.OK)
		g.look(n, 7, 8)
	}
	return n, g
}

// wantApart writes something of its own into each list, spare room too: no other list may show it.
func wantApart[T any](t *testing.T, what string, lists [][]T, mark func(n int) T, is func(x T, n int) bool) {
	t.Helper()
	count := 0
	for n, l := range lists {
		l = l[:cap(l)]
		count += len(l)
		for i := range l {
			l[i] = mark(n)
		}
	}
	for n, l := range lists {
		if slices.ContainsFunc(l[:cap(l)], func(x T) bool { return !is(x, n) }) {
			t.Fatalf("%s: the list %d shows what was written into another one", what, n)
		}
	}
	if count < 20 {
		t.Fatalf("%s: only %d things", what, count)
	}
}

// P20.8: no two lists that are handed out share anything, spare room too; what is written into them the node does not see.
func TestHandedOut(t *testing.T) {
	n, g := plays(t)
	quiet, _ := plays(t)
	if len(g.bytes) < 150 {
		t.Fatalf("%d lists", len(g.bytes))
	}
	const marks = 251 // a byte can't tell all lists: their numbers are marked by two digits, one behind the other
	wantApart(t, "bytes", g.bytes, func(n int) byte { return byte(n % marks) }, func(x byte, n int) bool { return x == byte(n%marks) })
	wantApart(t, "bytes", g.bytes, func(n int) byte { return byte(n / marks) }, func(x byte, n int) bool { return x == byte(n/marks) })
	wantApart(t, "Olds", g.olds, func(n int) int { return -n }, func(x, n int) bool { return x == -n })
	wantApart(t, "Openings", g.openings, func(n int) api.Opening { return api.Opening{Gen: -n} }, func(x api.Opening, n int) bool { return x.Gen == -n })
	wantApart(t, "Prefixes", g.prefixes, func(n int) api.Prefix { return api.Prefix{Bits: -n} }, func(x api.Prefix, n int) bool { return x.Bits == -n })
	wantApart(t, "Peers", g.peers, func(n int) api.Peer { return api.Peer{Link: -n} }, func(x api.Peer, n int) bool { return x.Link == -n })
	wantApart(t, "Lanes", g.lanes, func(n int) api.Lane { return api.Lane{Cur: -n} }, func(x api.Lane, n int) bool { return x.Cur == -n })
	if !sameTold(tellQuietly(n), tellQuietly(quiet)) {
		t.Fatalf("told is %+v, want %+v", tellQuietly(n), tellQuietly(quiet))
	}
	for _, c := range []call{send(pay("10.7.0.1", "10.7.0.2", "x")), send(pay("10.7.0.1", "11.0.0.1", "x")), rekey(7), rekey(8), take(sealed(key(1), 1, headOf(pkData, 7, 19, 90), pay("10.7.0.1", "1.1.1.1", "x")))} {
		if got, want := c.run(t, n, &ledger{}), c.run(t, quiet, &ledger{}); !same(got, want) || got.err != api.OK {
			t.Fatalf("%v = %+v, want %+v", c, got, want)
		}
	}
}

func grown[T any](l []T, x T) {
	for range 40 { // one by one, so that the spare room is used where there is some
		l = append(l, x)
	}
}

// P20.8: what is handed out is grown without a change of anything else, of the same answer or of another one.
func TestGrown(t *testing.T) {
	b := lively(t)
	peers, lanes := b.n.Peers(), b.n.Lanes()
	v, _ := b.n.View(7)
	want := b.p.tell()
	for _, p := range peers {
		grown(p.Key, 0x66)
		grown(p.Prefixes, api.Prefix{Bits: 66})
	}
	for _, l := range lanes {
		grown(l.Key, 0x66)
	}
	grown(peers, api.Peer{Link: 66})
	grown(lanes, api.Lane{Cur: 66})
	grown(v.Olds, 66)
	grown(v.Openings, api.Opening{Gen: 66})
	if !slices.EqualFunc(peers, want.peers, samePeer) || !slices.EqualFunc(lanes, want.lanes, sameLane) || !sameView(v, want.views[7]) {
		t.Fatalf("%+v, %+v, %+v", peers, lanes, v)
	}
	b.look(t)
	packet := b.ok(t, rekey(7)).packet
	again := slices.Clone(packet)
	grown(packet, 0x66)
	if !bytes.Equal(packet, again) {
		t.Fatal("a packet has changed")
	}
}

// P20.8: what is told is of its moment: what is done behind it does not show in it.
func TestToldStays(t *testing.T) {
	b := lively(t)
	peers, lanes, want := b.n.Peers(), b.n.Lanes(), b.p.tell()
	v, _ := b.n.View(7)
	for _, c := range []call{send(pay("1.1.1.1", "10.7.0.1", "x")), rekey(7), take(b.from(pkData, 7, 4, 60, pay("10.7.0.1", "1.1.1.1", "x"))), take(b.from(pkInit, 7, 20, 0, stampBytes(stampOf(9, 0)))), commit(deny(7, "10.7.0.0/16"), setKey(8, key(9), 0)), commit(remove(7))} {
		b.ok(t, c)
		if !slices.EqualFunc(peers, want.peers, samePeer) || !slices.EqualFunc(lanes, want.lanes, sameLane) || !sameView(v, want.views[7]) {
			t.Fatalf("behind %v what was told is %+v, %+v, %+v", c, peers, lanes, v)
		}
	}
}

// P20.8: what is handed in is not kept: changes, keys, payloads and packets are written over behind their calls, and the node goes on with what they were.
func TestHandedInIsNotKept(t *testing.T) {
	n, e := node.Boot(formatted(t, 64), params(4, 64))
	wantErr(t, "Boot", e, api.OK)
	k := key(1)
	l := []api.Change{add(7, k, 0), allow(7, "10.7.0.0/16"), setKey(7, k, 0)}
	wantErr(t, "Commit", n.Commit(l), api.OK)
	clear(k)
	clear(l)
	if got := n.Peers(); !slices.EqualFunc(got, []api.Peer{peerOf(7, key(1), "10.7.0.0/16")}, samePeer) {
		t.Fatalf("Peers() = %+v", got)
	}
	payload := pay("10.7.0.1", "10.7.0.2", "x")
	link, packet, e := n.Send(payload)
	clear(payload)
	if link != 7 || e != api.OK {
		t.Fatalf("Send = %d, %d", link, e)
	}
	wantPacket(t, "Send", packet, key(1), 0, headOf(pkData, 7, 2, 0), pay("10.7.0.1", "10.7.0.2", "x"))
	in := sealed(key(1), 1, headOf(pkData, 7, 2, 0), pay("10.7.0.1", "10.7.0.2", "y"))
	x, e := n.Take(in)
	clear(in)
	if e != api.OK || !bytes.Equal(x.Data, pay("10.7.0.1", "10.7.0.2", "y")) {
		t.Fatalf("Take = %+v, %d", x, e)
	}
	if got := n.Lanes(); len(got) != 1 || !bytes.Equal(got[0].Key, key(1)) {
		t.Fatalf("Lanes() = %+v", got)
	}
}

// P20.8: nil and the empty list are the same.
func TestNothingHandedIn(t *testing.T) {
	b := lively(t)
	for _, c := range []call{{kind: "Commit", changes: nil}, {kind: "Commit", changes: []api.Change{}}} {
		b.wantErr(t, "no changes", c, api.ErrChange)
	}
	wantErr(t, "Commit(nil)", b.n.Commit(nil), api.ErrChange)
	if _, _, e := b.n.Send(nil); e != api.ErrPayload {
		t.Fatalf("Send(nil) = %d", e)
	}
	if _, _, e := b.n.Send([]byte{}); e != api.ErrPayload {
		t.Fatalf("Send(no bytes) = %d", e)
	}
	if x, e := b.n.Take(nil); e != api.OK || x.Code != api.DropForm {
		t.Fatalf("Take(nil) = %+v, %d", x, e)
	}
	b.look(t)
}

// P20.8: nodes over unlike devices beside one another, with one key, with the same links: each is as if it were alone.
func TestNodesBesideOneAnother(t *testing.T) {
	t.Parallel()
	for seed := range 6 {
		s := newSampler(uint64(5000 + seed))
		var all []*sampled
		for range 4 {
			all = append(all, s.node(t))
		}
		d := s.device(t)
		all = append(all, &sampled{both: over(t, twin(t, d), s.params())}, &sampled{both: over(t, twin(t, d), s.params())}) // two that begin alike
		var old [][]byte
		for range 200 {
			b := pick(s, all...)
			c := s.call(b.p.tell())
			if c.kind == "Take" && len(old) > 0 && s.IntN(3) == 0 {
				c = take(pick(s, old...)) // what another one was given, or has made
			}
			got := b.do(t, c)
			for _, p := range [][]byte{got.packet, got.taken.Data, c.data} {
				if _, ok := readHead(p); ok {
					old = append(old, p)
				}
			}
			pick(s, all...).look(t)
		}
		for _, b := range all {
			b.look(t)
		}
	}
}
