package node_test

import (
	"bytes"
	"slices"
	"testing"

	"culvert/api"
	"culvert/node"
)

// P20.7: the peers by link, the prefixes of each rising, the lanes by key, in whatever order they came; also in the next life.
func TestLookOrder(t *testing.T) {
	b := fresh(t, 64, params(4, 64))
	for _, link := range []int{300, 7, maxLink, 1, 65536, 256, 255} {
		b.ok(t, commit(add(link, bytes.Repeat([]byte{byte(255 - link%251)}, 32), link%2)))
	}
	for _, text := range []string{"fd00::/8", "10.0.0.0/8", "10.0.0.0/16", "9.0.0.0/8", "fc00::/7", "0.0.0.0/0", "::/0", "10.0.0.0/9", "255.0.0.0/8"} {
		b.ok(t, commit(allow(300, text)))
	}
	b.ok(t, commit(remove(7)))
	for range 2 {
		peers, lanes := b.n.Peers(), b.n.Lanes()
		var links []int
		for _, p := range peers {
			links = append(links, p.Link)
		}
		if !slices.Equal(links, []int{1, 255, 256, 300, 65536, maxLink}) {
			t.Fatalf("the links %v", links)
		}
		var prefixes []string
		for _, p := range peers[3].Prefixes {
			prefixes = append(prefixes, prefixOf(p).String())
		}
		if !slices.Equal(prefixes, []string{"0.0.0.0/0", "9.0.0.0/8", "10.0.0.0/8", "255.0.0.0/8", "10.0.0.0/9", "10.0.0.0/16", "::/0", "fc00::/7", "fd00::/8"}) {
			t.Fatalf("the prefixes %v", prefixes)
		}
		var keys []int
		for _, l := range lanes {
			keys = append(keys, int(l.Key[0]))
		}
		if !slices.Equal(keys, []int{133, 206, 230, 248, 250, 251, 254}) {
			t.Fatalf("the lanes' keys %v", keys)
		}
		wantErr(t, "Boot", b.boot(t, params(4, 64)), api.OK)
	}
}

// P20.7: what is told behind each kind of call, said outright.
func TestLookBehindCalls(t *testing.T) {
	b := fresh(t, 64, params(4, 64))
	var lane api.Lane
	wants := func(what string, v api.View) {
		t.Helper()
		b.wantPeers(t, what, peerOf(7, key(1), "10.7.0.0/16"))
		b.wantLanes(t, what, lane)
		b.wantView(t, what, 7, v)
		if _, ok := b.n.View(8); ok || b.n.Boots() != 1 || b.n.Down() || b.n.Why() != nil {
			t.Fatalf("%s: View(8) = %v, Boots() = %d, Down() = %v, Why() = %v", what, ok, b.n.Boots(), b.n.Down(), b.n.Why())
		}
	}
	payload := pay("10.7.0.1", "10.7.0.2", "x")
	b.ok(t, commit(add(7, key(1), 1), allow(7, "10.7.0.0/16")))
	lane = newLane(key(1), 1)
	wants("Commit", api.View{})
	b.ok(t, send(payload))
	lane.SendCur = 4
	wants("Send", api.View{At: 1})
	b.ok(t, tick(stampOf(5, 0)))
	wants("Tick", api.View{At: 1})
	b.ok(t, rekey(7))
	lane.Next = 2
	v := api.View{At: 1, Openings: []api.Opening{{Gen: 2, Stamp: stampOf(5, 0)}}, Last: stampOf(5, 0)}
	wants("Rekey", v)
	b.ok(t, take(b.from(pkData, 7, 1, 6, payload)))
	lane.Ceil = 10
	v.Top, v.HasTop = 6, true
	wants("Take of data", v)
	b.ok(t, take(b.from(pkReply, 7, 2, 1, stampBytes(stampOf(5, 0)))))
	lane.Cur, lane.SendCur, lane.Ceil = 2, 5, 5
	v = api.View{At: 1, Top: 1, HasTop: true, Olds: []int{1}, Last: stampOf(5, 0)}
	wants("Take of a reply", v)
	b.ok(t, take(b.from(pkInit, 7, 9, 0, stampBytes(stampOf(3, 3)))))
	lane.Cur, lane.SendCur, lane.Ceil, lane.Seen = 9, 4, 4, stampOf(3, 3)
	v = api.View{At: 1, Top: 0, HasTop: true, Olds: []int{2, 1}, Last: stampOf(5, 0)}
	wants("Take of an init", v)
	b.wantDrop(t, "dropped", b.from(pkInit, 7, 9, 0, stampBytes(stampOf(4, 3))), api.DropGen)
	wants("Take of what is dropped", v)
	b.wantErr(t, "refused", commit(remove(8)), api.ErrNoPeer)
	wants("a Commit that is refused", v)
	b.ok(t, commit(remove(7)))
	b.wantPeers(t, "no peer")
	b.wantLanes(t, "no peer", lane)
	if _, ok := b.n.View(7); ok {
		t.Fatal("there is a View of a peer that went")
	}
}

// P20.7: the looks change nothing: a node that is looked at answers as one that is not.
func TestLooksChangeNothing(t *testing.T) {
	t.Parallel()
	s := newSampler(20)
	for range 8 {
		b := s.node(t)
		quiet, e := node.Boot(twin(t, b.before), b.p.params)
		wantErr(t, "Boot", e, api.OK)
		for range 60 {
			c := s.call(b.p.tell())
			got := b.do(t, c)
			var out ledger
			if other := c.run(t, quiet, &out); !same(got, other) {
				b.fail(t, "%v = %+v, and not looked at %+v", c, got, other)
			}
		}
		if !sameTold(tellOf(quiet, nil, &ledger{}), b.p.tell()) {
			t.Fatal("a node that was not looked at tells something else")
		}
	}
}

// P20.7: the looks at once behind a Boot, of a node without a peer and of one with as many as there may be.
func TestLookMost(t *testing.T) {
	peers, lanes := many(16, 32, 16)
	b := over(t, laid(t, 64, 2, 9, rowsOf(peers, lanes, 12)), params(4, 64))
	b.wantPeers(t, "the most", peers...)
	b.wantLanes(t, "the most", lanes...)
	for _, p := range peers {
		b.wantView(t, "the most", p.Link, api.View{})
	}
	for _, link := range append(oddLinks(), 17, 100) {
		if v, ok := b.n.View(link); ok || !sameView(v, api.View{}) {
			t.Fatalf("View(%d) = %+v, %v", link, v, ok)
		}
	}
}
