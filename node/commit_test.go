package node_test

import (
	"fmt"
	"slices"
	"testing"

	"culvert/api"
	"culvert/disk"
)

// base are a state's peers and lanes, of which all faults of a change can be had.
func base() ([]api.Peer, []api.Lane) {
	peers := []api.Peer{peerOf(7, key(1), "10.0.0.0/8"), peerOf(8, key(2), "10.1.0.0/16")}
	lanes := []api.Lane{newLane(key(1), 0), newLane(key(2), 1), newLane(key(3), 0), withLane(newLane(key(5), 0), func(l *api.Lane) { l.Cur = maxGen })}
	return peers, lanes
}

// many are so many peers and lanes, each peer with so many prefixes of the family 6, numbered from 1 on.
func many(peers, lanes, prefixes int) ([]api.Peer, []api.Lane) {
	var outPeers []api.Peer
	var outLanes []api.Lane
	for i := range lanes {
		outLanes = append(outLanes, newLane(key(i+1), 0))
	}
	for i := range peers {
		p := peerOf(i+1, key(i+1))
		for j := range prefixes {
			p.Prefixes = append(p.Prefixes, pre(sixth(i+1, j)))
		}
		outPeers = append(outPeers, p)
	}
	return outPeers, outLanes
}

func sixth(link, number int) string { return fmt.Sprintf("fd%02x:%x::/32", link, number) }

// had is a device on which this state stands, with room for all that may come.
func had(t *testing.T, peers []api.Peer, lanes []api.Lane) *disk.Disk {
	t.Helper()
	return laid(t, 64, 2, 9, rowsOf(peers, lanes, 3))
}

// faulty is a list that Judge refuses.
type faulty struct {
	d     *disk.Disk
	l     []api.Change
	fault api.Errno
}

func faulties(t *testing.T) []faulty {
	t.Helper()
	peers, lanes := base()
	d := had(t, peers, lanes)
	withSide := remove(7)
	withSide.Side = 1
	out := []faulty{
		{d, nil, api.ErrChange},
		{d, slices.Repeat([]api.Change{allow(7, "11.0.0.0/8"), deny(7, "11.0.0.0/8")}, 17)[:33], api.ErrChange},
		{d, []api.Change{{Kind: 6, Link: 7}}, api.ErrChange},
		{d, []api.Change{{}}, api.ErrChange},
		{d, []api.Change{withSide}, api.ErrChange},
		{d, []api.Change{add(0, key(9), 0)}, api.ErrLink},
		{d, []api.Change{remove(maxLink + 1)}, api.ErrLink},
		{d, []api.Change{add(9, key(9)[:31], 0)}, api.ErrKey},
		{d, []api.Change{setKey(7, nil, 0)}, api.ErrKey},
		{d, []api.Change{add(9, key(9), 2)}, api.ErrSide},
		{d, []api.Change{add(7, key(9), 0)}, api.ErrLinkTwice},
		{d, []api.Change{add(9, key(2), 1)}, api.ErrKeyTwice},
		{d, []api.Change{setKey(7, key(2), 1)}, api.ErrKeyTwice},
		{d, []api.Change{add(9, key(5), 0)}, api.ErrGen},
		{d, []api.Change{add(9, key(3), 1)}, api.ErrTurned},
		{d, []api.Change{setKey(7, key(1), 1)}, api.ErrTurned},
		{d, []api.Change{remove(9)}, api.ErrNoPeer},
		{d, []api.Change{setKey(9, key(9), 0)}, api.ErrNoPeer},
		{d, []api.Change{allow(9, "11.0.0.0/8")}, api.ErrNoPeer},
		{d, []api.Change{{Kind: api.ChAllow, Link: 7}}, api.ErrPrefix},
		{d, []api.Change{{Kind: api.ChDeny, Link: 7, Prefix: api.Prefix{Addr: api.Addr{Family: 4, Lo: 1}, Bits: 8}}}, api.ErrPrefix},
		{d, []api.Change{allow(8, "10.0.0.0/8")}, api.ErrOverlap},
		{d, []api.Change{deny(8, "10.0.0.0/8")}, api.ErrNoPrefix},
	}
	for _, x := range []struct {
		peers, lanes, prefixes int
		change                 api.Change
		fault                  api.Errno
	}{{16, 16, 1, add(20, key(40), 0), api.ErrPeers}, {15, 32, 1, add(20, key(40), 0), api.ErrLanes}, {1, 1, 16, allow(1, "11.0.0.0/8"), api.ErrPrefixes}} {
		peers, lanes := many(x.peers, x.lanes, x.prefixes)
		out = append(out, faulty{had(t, peers, lanes), []api.Change{x.change}, x.fault})
	}
	return out
}

// P20.2: each of Judge's errors: alone, behind changes that have none, with a device that would refuse, with the power off; nothing has changed, and no operation was done.
func TestCommitJudged(t *testing.T) {
	met := map[api.Errno]bool{}
	for _, x := range faulties(t) {
		met[x.fault] = true
		b := over(t, twin(t, x.d), params(4, 64))
		what := fmt.Sprintf("the fault %d", x.fault)
		b.wantErr(t, what, commit(x.l...), x.fault)
		if link := b.p.peers[0].Link; len(x.l) == 1 {
			b.wantErr(t, what+" behind others", commit(allow(link, "99.0.0.0/8"), deny(link, "99.0.0.0/8"), x.l[0]), x.fault)
		}
		b.arm(t, fault(1, power))
		b.wantErr(t, what+", a device that would refuse", commit(x.l...), x.fault)
		wantErr(t, "Flush", b.d.Flush(), api.ErrPower)
		wantErr(t, "Flush", b.pd.Flush(), api.ErrPower)
		b.wantErr(t, what+", the power off", commit(x.l...), x.fault)
	}
	for e := api.ErrChange; e <= api.ErrTurned; e++ {
		if !met[e] {
			t.Errorf("%d is not tried", e)
		}
	}
}

// wide is a device of 50 sectors (13 pieces are all that its store may have) with 16 peers, each with 15 prefixes: 6,189 bytes. Behind 16 prefixes more a transaction would be too big and the state too long; behind four just this.
func wide(t *testing.T, epoch, seq int, txs ...api.Set) *disk.Disk {
	t.Helper()
	peers, lanes := many(16, 16, 15)
	l := rowsOf(peers, lanes, 3)
	if n := len(bytesOf(l)); n != 6189 {
		t.Fatalf("%d bytes", n)
	}
	return laid(t, 50, epoch, seq, l, txs...)
}

// more are the changes that give so many peers their 16th prefix.
func more(peers int) []api.Change {
	var out []api.Change
	for i := range peers {
		out = append(out, allow(i+1, sixth(i+1, 15)))
	}
	return out
}

// nothings are lists that change nothing, of a state of which the peer 1 has fd01:0::/32 and no room is asked for.
func nothings() [][]api.Change {
	return [][]api.Change{
		{allow(1, "11.0.0.0/8"), deny(1, "11.0.0.0/8")},
		{deny(1, sixth(1, 0)), allow(1, sixth(1, 0))},
		slices.Repeat([]api.Change{deny(1, sixth(1, 0)), allow(1, sixth(1, 0))}, 16),
	}
}

// P20.2: ErrTxBig, ErrSeqs, ErrFull and ErrDevice, each alone and ahead of those behind it; and Judge's errors ahead of all; a list that changes nothing is OK at all of them.
func TestCommitWhichFirst(t *testing.T) {
	lane := newLane(key(1), 0)
	big, full, fits := more(16), more(4), []api.Change{deny(1, sixth(1, 3))}
	bad := append(more(16), remove(99))
	for _, x := range []struct {
		what                string
		d                   *disk.Disk
		bad, big, full, fit api.Errno
	}{
		{"room", wide(t, 3, 9), api.ErrNoPeer, api.ErrTxBig, api.ErrFull, api.OK},
		{"no seq left", wide(t, 3, maxSeq), api.ErrNoPeer, api.ErrTxBig, api.ErrSeqs, api.ErrSeqs},
		{"the last epoch, no room left in its region", wide(t, maxSeq, 9, flips(10, lane)...), api.ErrNoPeer, api.ErrTxBig, api.ErrSeqs, api.ErrSeqs},
		{"the last epoch but one", wide(t, maxSeq-1, 9, flips(10, lane)...), api.ErrNoPeer, api.ErrTxBig, api.ErrFull, api.OK},
	} {
		for _, refuses := range []bool{false, true} {
			what := fmt.Sprintf("%s, a device that refuses: %v", x.what, refuses)
			b := over(t, twin(t, x.d), params(4, 64))
			if refuses {
				b.arm(t, fault(1, io))
				if x.fit == api.OK {
					x.fit = api.ErrDevice
				}
			}
			b.wantErr(t, what+", a fault", commit(bad...), x.bad)
			b.wantErr(t, what+", a list that is too big", commit(big...), x.big)
			b.wantErr(t, what+", no room", commit(full...), x.full)
			for _, l := range nothings() {
				b.wantOps(t, what+", nothing", commit(l...), 0)
			}
			if x.fit != api.OK {
				b.wantErr(t, what+", what fits", commit(fits...), x.fit)
			} else {
				b.ok(t, commit(fits...))
			}
		}
	}
}

// P20.2: a transaction of just 4,800 bytes is done; of 4,806 it is ErrTxBig.
func TestCommitBig(t *testing.T) {
	peers, lanes := many(15, 15, 15)
	peers[14].Prefixes = peers[14].Prefixes[:7]
	b := over(t, laid(t, 64, 3, 9, rowsOf(peers, lanes, 3)), params(4, 64))
	l := append(more(14), allow(15, "10.0.0.0/8"), allow(15, "11.0.0.0/8"))
	b.wantErr(t, "4806 bytes", commit(append(slices.Clone(l), allow(15, "12.0.0.0/8"))...), api.ErrTxBig)
	b.wantOps(t, "4800 bytes", commit(l...), 10+3)
}

// P20.2: a store that is filled by commits to its last byte but few: each is refused by ErrFull or done; what has no more bytes than ahead is done.
func TestCommitFull(t *testing.T) {
	b := fresh(t, 32, params(4, 64))
	full := 0
	for i := range 40 {
		before := stateSize(b.p.tell())
		got := b.do(t, commit(add(1, key(i), i%2), remove(1)))
		if want := before+74 <= 1920; want != (got.err == api.OK) {
			t.Fatalf("a lane behind %d bytes: %d", before, got.err)
		}
		if got.err == api.ErrFull {
			full++
		}
	}
	if full == 0 || stateSize(b.p.tell()) != 13+25*74 {
		t.Fatalf("%d refused, %d bytes", full, stateSize(b.p.tell()))
	}
	b.ok(t, commit(add(1, key(3), 1)))
	b.wantErr(t, "a prefix too many", commit(allow(1, "fd00::/16"), allow(1, "10.0.0.0/8")), api.ErrFull)
	b.ok(t, commit(allow(1, "10.0.0.0/8")))
	b.wantErr(t, "one more", commit(allow(1, "fd00::/16")), api.ErrFull)
	b.ok(t, commit(setKey(1, key(3), 1)))
	b.ok(t, commit(deny(1, "10.0.0.0/8"), allow(1, "11.0.0.0/8")))
	for range 40 { // no other call is refused by that: the bytes of a lane are as many as they were
		b.ok(t, rekey(1))
		b.ok(t, send(pay("1.1.1.1", "11.0.0.1", "x")))
	}
	for range 20 {
		wantErr(t, "Boot", b.boot(t, params(4, 64)), api.OK)
	}
}

// P20.2: what the device has behind a commit is just the rows that changed, as one transaction.
func TestCommitWrites(t *testing.T) {
	b := fresh(t, 64, params(4, 64))
	b.wantOps(t, "a peer", commit(add(7, key(1), 0), allow(7, "10.0.0.0/8"), add(8, key(2), 1)), 2)
	b.wantPeers(t, "a peer", peerOf(7, key(1), "10.0.0.0/8"), peerOf(8, key(2)))
	b.wantLanes(t, "a peer", newLane(key(1), 0), newLane(key(2), 1))
	want := rowsOf([]api.Peer{peerOf(7, key(1), "10.0.0.0/8"), peerOf(8, key(2))}, []api.Lane{newLane(key(1), 0), newLane(key(2), 1)}, 1)
	sameRow := func(x, y api.Row) bool { return string(x.Key) == string(y.Key) && string(x.Value) == string(y.Value) }
	if got := mustOpen(t, twin(t, b.d)).Rows(); !slices.EqualFunc(got, want, sameRow) {
		t.Fatalf("the rows %v, want %v", got, want)
	}
	b.wantOps(t, "a key that is given anew, and a peer that goes", commit(setKey(7, key(1), 0), remove(8)), 2)
	b.wantPeers(t, "a peer that goes", peerOf(7, key(1), "10.0.0.0/8"))
	b.wantLanes(t, "its lane stays", withLane(newLane(key(1), 0), func(l *api.Lane) { l.Cur = 2 }), newLane(key(2), 1))
	b.wantOps(t, "no peer", commit(remove(7)), 2)
	b.wantPeers(t, "no peer")
	b.wantLanes(t, "no peer", withLane(newLane(key(1), 0), func(l *api.Lane) { l.Cur = 2 }), newLane(key(2), 1))
}

// lively is a node with three peers whose sessions hold all that a session can: older windows, openings, counters that came, and a lane without a peer.
func lively(t *testing.T) *both {
	t.Helper()
	b := fresh(t, 64, params(4, 64), add(7, key(1), 0), allow(7, "10.7.0.0/16"), add(8, key(2), 1), allow(8, "10.8.0.0/16"), add(9, key(3), 0), allow(9, "10.9.0.0/16"), add(10, key(5), 1), remove(10))
	b.ok(t, tick(stampOf(5, 0)))
	for _, link := range []int{7, 8, 9} {
		own := fmt.Sprintf("10.%d.0.1", link)
		b.ok(t, send(pay("1.1.1.1", own, "x")))
		b.ok(t, take(b.from(pkData, link, 1, 3, pay(own, "1.1.1.1", "x"))))
		b.wantTaken(t, "an init", b.from(pkInit, link, 4, 0, stampBytes(stampOf(1, 0))), api.TkAnswered, link)
		b.ok(t, rekey(link))
		b.ok(t, rekey(link))
		b.ok(t, send(pay("1.1.1.1", own, "x")))
		b.ok(t, take(b.from(pkData, link, 4, 9, pay(own, "1.1.1.1", "x"))))
		b.wantView(t, "lively", link, api.View{At: 2, Top: 9, HasTop: true, Olds: []int{1}, Openings: []api.Opening{{Gen: 6, Stamp: stampOf(5, 1)}, {Gen: 5, Stamp: stampOf(5, 0)}}, Last: stampOf(5, 1)})
	}
	return b
}

// wantGoesOn: the session of a link is as it was in lively: what came does not come again, openings may be answered, data of the older generation are taken.
func wantGoesOn(t *testing.T, what string, b *both, link int) {
	t.Helper()
	own := fmt.Sprintf("10.%d.0.1", link)
	b.wantView(t, what, link, api.View{At: 2, Top: 9, HasTop: true, Olds: []int{1}, Openings: []api.Opening{{Gen: 6, Stamp: stampOf(5, 1)}, {Gen: 5, Stamp: stampOf(5, 0)}}, Last: stampOf(5, 1)})
	b.wantDrop(t, what+": what came", b.from(pkData, link, 4, 9, pay(own, "1.1.1.1", "x")), api.DropReplay)
	b.wantDelivered(t, what+": of the older generation", b.from(pkData, link, 1, 4, pay(own, "1.1.1.1", "y")), link, pay(own, "1.1.1.1", "y"))
	b.wantTaken(t, what+": a reply", b.from(pkReply, link, 6, 0, stampBytes(stampOf(5, 1))), api.TkOpened, link)
}

// wantNew: the session of a link has just begun.
func wantNew(t *testing.T, what string, b *both, link int) {
	t.Helper()
	own := fmt.Sprintf("10.%d.0.1", link)
	b.wantView(t, what, link, api.View{})
	b.wantDrop(t, what+": a reply", b.from(pkReply, link, 9, 0, stampBytes(stampOf(5, 1))), api.DropGen)
	for _, gen := range []int{1, 4} {
		if p, _ := b.p.peer(link); b.p.lane(p.Key).Cur != gen {
			b.wantDrop(t, what+": of an older generation", b.from(pkData, link, gen, 40, pay(own, "1.1.1.1", "y")), api.DropGen)
		}
	}
	p, _ := b.p.peer(link)
	wantPacket(t, what+": an init", b.ok(t, rekey(link)).packet, p.Key, b.p.lane(p.Key).Side, headOf(pkInit, link, b.p.lane(p.Key).Next, 0), stampBytes(stampOf(5, 0)))
}

// P20.2: which sessions go on as they are, which are new, and which are no more.
func TestCommitSessions(t *testing.T) {
	for _, x := range []struct {
		what  string
		l     []api.Change
		goOn  []int
		begin []int
		cur   map[int]int // of the keys of those that are new
	}{
		{"a prefix more", []api.Change{allow(7, "11.0.0.0/8")}, []int{7, 8, 9}, nil, nil},
		{"nothing", []api.Change{deny(7, "10.7.0.0/16"), allow(7, "10.7.0.0/16")}, []int{7, 8, 9}, nil, nil},
		{"a peer more, of a new key", []api.Change{add(10, key(4), 1)}, []int{7, 8, 9}, []int{10}, map[int]int{10: 1}},
		{"a peer more, of a key that was there", []api.Change{add(10, key(5), 1)}, []int{7, 8, 9}, []int{10}, map[int]int{10: 2}},
		{"a peer less", []api.Change{remove(8)}, []int{7, 9}, nil, nil},
		{"a peer taken away and added again", []api.Change{remove(8), add(8, key(2), 1)}, []int{7, 9}, []int{8}, map[int]int{8: 7}},
		{"the same with another key", []api.Change{remove(8), add(8, key(6), 0)}, []int{7, 9}, []int{8}, map[int]int{8: 1}},
		{"a new key for a link", []api.Change{setKey(9, key(6), 1)}, []int{7, 8}, []int{9}, map[int]int{9: 1}},
		{"a key that was there", []api.Change{setKey(9, key(5), 1)}, []int{7, 8}, []int{9}, map[int]int{9: 2}},
		{"its own key anew", []api.Change{setKey(9, key(3), 0)}, []int{7, 8}, []int{9}, map[int]int{9: 7}},
		{"another key and its own again", []api.Change{setKey(9, key(6), 1), setKey(9, key(3), 0)}, []int{7, 8}, []int{9}, map[int]int{9: 7}},
		{"its own key twice", []api.Change{setKey(9, key(3), 0), setKey(9, key(3), 0)}, []int{7, 8}, []int{9}, map[int]int{9: 8}},
		{"two peers change keys", []api.Change{remove(7), setKey(8, key(1), 0), add(7, key(2), 1)}, []int{9}, []int{7, 8}, map[int]int{7: 7, 8: 7}},
		{"a key for another link", []api.Change{remove(7), add(10, key(1), 0)}, []int{8, 9}, []int{10}, map[int]int{10: 7}},
		{"a peer that comes and goes", []api.Change{add(10, key(5), 1), remove(10)}, []int{7, 8, 9}, nil, nil},
		{"all at once", []api.Change{remove(7), setKey(8, key(2), 1), add(6, key(1), 0), allow(9, "11.0.0.0/8"), deny(9, "10.9.0.0/16"), allow(9, "10.9.0.0/16")}, []int{9}, []int{6, 8}, map[int]int{6: 7, 8: 7}},
		{"no peers", []api.Change{remove(7), remove(8), remove(9)}, nil, nil, nil},
	} {
		b := lively(t)
		b.ok(t, commit(x.l...))
		if len(b.n.Peers()) != len(x.goOn)+len(x.begin) {
			t.Fatalf("%s: %+v", x.what, b.n.Peers())
		}
		for _, link := range x.begin {
			p, _ := b.p.peer(link)
			if l := b.p.lane(p.Key); l.Cur != x.cur[link] || l.SendCur != 0 || l.Ceil != 0 {
				t.Fatalf("%s: the lane of %d is %+v", x.what, link, l)
			}
			wantNew(t, x.what, b, link)
		}
		for _, link := range x.goOn {
			wantGoesOn(t, x.what, b, link)
		}
		for _, link := range []int{6, 7, 8, 9, 10} {
			if !slices.Contains(x.goOn, link) && !slices.Contains(x.begin, link) {
				b.wantErr(t, x.what+", no peer", rekey(link), api.ErrNoPeer)
				b.wantDrop(t, x.what+", no peer", sealed(key(1), 1, headOf(pkData, link, 1, 8), pay("10.7.0.1", "1.1.1.1", "")), api.DropPeer)
			}
		}
	}
}

// P20.2: a commit that was refused leaves all sessions: by a lane that would be turned, by a fault behind changes that would have made new ones, by a list that is too long.
func TestCommitRefusedSessions(t *testing.T) {
	for what, l := range map[string][]api.Change{
		"a lane that would be turned":        {setKey(7, key(1), 1)},
		"taken away and turned":              {remove(7), add(7, key(1), 1)},
		"a fault behind new sessions":        {setKey(7, key(1), 0), setKey(8, key(6), 0), remove(9), remove(9)},
		"a list that is too long":            slices.Repeat([]api.Change{setKey(7, key(1), 0)}, 33),
		"a prefix that is another peer's":    {setKey(7, key(1), 0), allow(7, "10.8.0.0/16")},
		"a key for a link that is not there": {remove(8), setKey(8, key(2), 1)},
	} {
		b := lively(t)
		if got := b.do(t, commit(l...)); got.err == api.OK || got.err == api.ErrDevice {
			t.Fatalf("%s: %d", what, got.err)
		}
		for _, link := range []int{7, 8, 9} {
			wantGoesOn(t, what, b, link)
		}
	}
}

// P20.2: the route behind a commit is that of the prefixes: of those that came, not of those that went.
func TestCommitRoute(t *testing.T) {
	b := lively(t)
	to := func(dst string, want int) {
		t.Helper()
		if want == 0 {
			b.wantErr(t, dst, send(pay("1.1.1.1", dst, "")), api.ErrRoute)
		} else if got := b.ok(t, send(pay("1.1.1.1", dst, ""))); got.link != want {
			t.Fatalf("%s goes to %d, want %d", dst, got.link, want)
		}
	}
	to("10.7.0.1", 7)
	to("10.8.1.1", 8)
	to("11.0.0.1", 0)
	b.ok(t, commit(deny(7, "10.7.0.0/16"), allow(8, "10.7.0.0/16"), allow(7, "10.8.1.0/24"), allow(9, "0.0.0.0/0")))
	to("10.7.0.1", 8)
	to("10.8.1.1", 7)
	to("10.8.2.1", 8)
	to("11.0.0.1", 9)
	b.ok(t, commit(remove(8)))
	to("10.7.0.1", 9)
	to("10.8.1.1", 7)
	to("10.8.2.1", 9)
	b.ok(t, commit(remove(9)))
	to("10.7.0.1", 0)
	to("10.8.1.1", 7)
	b.wantErr(t, "refused", commit(deny(7, "10.8.1.0/24"), remove(99)), api.ErrNoPeer)
	to("10.8.1.1", 7)
	b.ok(t, commit(setKey(7, key(8), 1)))
	to("10.8.1.1", 7)
	wantErr(t, "Boot", b.boot(t, params(4, 64)), api.OK)
	to("10.8.1.1", 7)
	to("10.8.2.1", 0)
}
