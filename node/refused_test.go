package node_test

import (
	"fmt"
	"testing"

	"culvert/api"
	"culvert/node"
)

// Every call of both (want_test.go) holds P20.12 and P20.13: what is told and what the device is, ahead of and behind each call that is refused or drops a packet; and how many operations each call did. What follows says the same by itself.

// P20.12: what was refused, and what was dropped, has never been: a node that is asked nothing else answers all other calls likewise.
func TestRefusedHasNeverBeen(t *testing.T) {
	t.Parallel()
	refused, done := 0, 0
	for seed := range 40 {
		s := newSampler(uint64(3000 + seed))
		b := s.node(t)
		d := twin(t, b.before)
		spared, e := node.Boot(d, b.p.params)
		wantErr(t, "Boot", e, api.OK)
		for range 70 {
			c := s.call(b.p.tell())
			got := b.do(t, c)
			if got.err != api.OK || got.taken.Kind == api.TkDropped {
				refused++
				continue
			}
			done++
			if want := c.run(t, spared, &ledger{}); !same(got, want) {
				b.fail(t, "%v = %+v, and without what was refused %+v", c, got, want)
			}
		}
		if got := tellOf(spared, nil, &ledger{}); !sameTold(got, b.p.tell()) {
			b.fail(t, "told is %+v, and without what was refused %+v", b.p.tell(), got)
		}
		if !standOf(d).same(standOf(b.d)) {
			b.fail(t, "the device is %v, and without what was refused %v", standOf(b.d), standOf(d))
		}
	}
	if refused < 600 || done < 600 {
		t.Errorf("%d refused, %d done", refused, done)
	}
}

// P20.12: a call that was refused may be done behind that, where nothing stands against it any more: by a list that was too long, a route that was not there, a peer that was not there, a packet whose source was nobody's.
func TestRefusedThenDone(t *testing.T) {
	b := fresh(t, 64, params(4, 64), add(7, key(1), 0))
	payload := pay("10.0.0.1", "10.0.0.2", "x")
	packet := b.from(pkData, 7, 1, 5, payload)
	b.wantErr(t, "no route", send(payload), api.ErrRoute)
	b.wantDrop(t, "no source", packet, api.DropSource)
	b.wantErr(t, "no peer", rekey(8), api.ErrNoPeer)
	b.ok(t, commit(allow(7, "10.0.0.0/8"), add(8, key(2), 0)))
	wantPacket(t, "a route", b.ok(t, send(payload)).packet, key(1), 0, headOf(pkData, 7, 1, 0), payload)
	b.wantDelivered(t, "a source", packet, 7, payload)
	wantPacket(t, "a peer", b.ok(t, rekey(8)).packet, key(2), 0, headOf(pkInit, 8, 2, 0), stampBytes(stampOf(0, 1)))
}

// P20.12: a Boot that is refused but by the device has written nothing, and a life begins behind it as if it had not been, as far as its claim allows.
func TestRefusedBoot(t *testing.T) {
	b := fresh(t, 64, params(4, 64), add(7, key(1), 0), allow(7, "10.0.0.0/8"))
	stood := standOf(b.d)
	for _, p := range []api.Params{params(0, 64), params(maxBlock+1, 64), params(1, 0), params(1, 1088)} {
		wantNoBoot(t, "no params", b.d, p, api.ErrParams)
	}
	wantStand(t, "no params", b.d, stood)
	b.ok(t, send(pay("10.0.0.1", "10.0.0.2", "x")))
}

// P20.13: the most that a call does: a transaction of ten pieces behind a checkpoint; it is K + 16, and not one more.
func TestMostOperations(t *testing.T) {
	peers, lanes := many(15, 15, 15)
	peers[14].Prefixes = peers[14].Prefixes[:7]
	b := over(t, lastPlaces(t, 10, peers, lanes), params(4, 64))
	pieces := (stateSize(b.p.tell()) + 479) / 480
	if pieces != 12 {
		t.Fatalf("%d pieces", pieces)
	}
	b.wantOps(t, "the most", commit(append(more(14), allow(15, "10.0.0.0/8"), allow(15, "11.0.0.0/8"))...), pieces+16)
	b = over(t, lastPlaces(t, 11, peers, lanes), params(4, 64))
	b.wantOps(t, "no checkpoint", commit(append(more(14), allow(15, "10.0.0.0/8"), allow(15, "11.0.0.0/8"))...), 13)
}

// P20.13: states of many sizes: how many operations each kind of call does, with a checkpoint and without; and that what a Boot commits is no more.
func TestOperations(t *testing.T) {
	for _, x := range []struct{ peers, lanes, prefixes, pieces int }{{1, 1, 1, 1}, {1, 5, 1, 1}, {2, 6, 3, 2}, {5, 8, 4, 3}, {16, 16, 2, 6}, {16, 32, 16, 16}} {
		peers, lanes := many(x.peers, x.lanes, x.prefixes)
		for _, left := range []int{1, 0} {
			ops := 2
			if left == 0 {
				ops += x.pieces + 3
			}
			payload := pay("fd01:0::1", "fd01:0::2", "x")
			for what, c := range map[string]call{
				"Commit": commit(deny(1, sixth(1, 0))),
				"Send":   send(payload),
				"Rekey":  rekey(1),
				"init":   take(sealed(key(1), 1, headOf(pkInit, 1, 3, 0), stampBytes(stampOf(1, 0)))),
				"data":   take(sealed(key(1), 1, headOf(pkData, 1, 1, 0), payload)),
			} {
				b := over(t, lastPlaces(t, left, peers, lanes), params(4, 64))
				if got := (stateSize(b.p.tell()) + 479) / 480; got != x.pieces {
					t.Fatalf("%+v: %d pieces", x, got)
				}
				b.wantOps(t, fmt.Sprintf("%s, %+v, %d places left", what, x, left), c, ops)
			}
			b := over(t, lastPlaces(t, left, peers, lanes), params(4, 64))
			opening := twin(t, b.d)
			mustOpen(t, opening)
			done := b.d.Done()
			wantErr(t, "Boot", b.boot(t, params(4, 64)), api.OK)
			if got := b.d.Done() - done - opening.Done(); got != ops {
				t.Fatalf("Boot, %+v, %d places left: %d operations behind its Open, want %d", x, left, got, ops)
			}
		}
	}
}

// P20.13: what needs no commit does no operation: sends within what is reserved, data below the ceiling and of older generations, Tick, what is dropped, what is refused, a Commit that changes nothing, the looks.
func TestNoOperations(t *testing.T) {
	b := lively(t)
	b.arm(t, fault(1, power))
	for _, link := range []int{7, 8, 9} {
		own := fmt.Sprintf("10.%d.0.1", link)
		b.wantOps(t, "reserved", send(pay("1.1.1.1", own, "x")), 0)
		b.wantOps(t, "below the ceiling", take(b.from(pkData, link, 4, 10, pay(own, "1.1.1.1", "x"))), 0)
		b.wantOps(t, "of an older generation", take(b.from(pkData, link, 1, 1000, pay(own, "1.1.1.1", "x"))), 0)
	}
	b.wantOps(t, "Tick", tick(stampOf(50, 0)), 0)
	b.wantOps(t, "dropped", take(nil), 0)
	b.wantOps(t, "nothing", commit(deny(7, "10.7.0.0/16"), allow(7, "10.7.0.0/16")), 0)
	b.look(t)
	if b.d.Done() != 0 {
		t.Fatalf("%d operations", b.d.Done())
	}
}
