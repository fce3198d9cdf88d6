package node_test

import (
	"math"
	"testing"

	"culvert/api"
)

// P20.4: no link, no peer; a stopped node says ErrDown of both.
func TestRekeyLink(t *testing.T) {
	b := fresh(t, 64, params(4, 64))
	for range 2 {
		for _, link := range []int{0, -1, -7, maxLink + 1, maxLink + 8, math.MinInt, math.MaxInt, 1<<32 + 7} {
			b.wantErr(t, "no link", rekey(link), api.ErrLink)
		}
		for _, link := range []int{1, 2, 6, 8, maxLink} {
			b.wantErr(t, "no peer", rekey(link), api.ErrNoPeer)
		}
		if len(b.p.peers) == 0 {
			b.ok(t, commit(add(7, key(1), 0)))
		}
	}
	b.ok(t, rekey(7))
	b.ok(t, commit(remove(7)))
	b.wantErr(t, "a peer that went", rekey(7), api.ErrNoPeer)
	b.ok(t, commit(add(1, key(2), 0), add(maxLink, key(3), 1)))
	b.ok(t, rekey(1))
	b.ok(t, rekey(maxLink))
	b.d.Claim()
	b.pd.Claim()
	for _, link := range []int{0, 1, 2, 7, maxLink, maxLink + 1} {
		b.wantErr(t, "stopped", rekey(link), api.ErrDown)
	}
}

// P20.4, P20.5: inits have the clock's stamp, or the next one above the last of their peer; the clock may go back, and stays what it is where a Tick is refused.
func TestRekeyClock(t *testing.T) {
	b := fresh(t, 64, params(4, 64), add(7, key(1), 0), add(8, key(2), 1))
	gens := map[int]int{7: 1, 8: 1}
	init := func(link int, want api.Stamp) {
		t.Helper()
		gens[link]++
		p, _ := b.p.peer(link)
		wantPacket(t, "an init", b.ok(t, rekey(link)).packet, p.Key, link-7, headOf(pkInit, link, gens[link], 0), stampBytes(want))
	}
	init(7, stampOf(0, 1))
	init(7, stampOf(0, 2))
	b.wantOps(t, "Tick", tick(stampOf(9, 5)), 0)
	init(7, stampOf(9, 5))
	init(7, stampOf(9, 6))
	b.ok(t, tick(stampOf(3, 0))) // it goes back
	init(7, stampOf(9, 7))
	init(8, stampOf(3, 0)) // another peer's last one is its own
	for _, s := range noStamps() {
		b.wantErr(t, "no stamp", tick(s), api.ErrStamp)
	}
	init(8, stampOf(3, 1))
	b.ok(t, tick(stampOf(3, 2)))
	init(8, stampOf(3, 2))
	b.ok(t, tick(api.Stamp{}))
	init(8, stampOf(3, 3))
	b.ok(t, tick(stampOf(4, 0)))
	b.ok(t, commit(setKey(8, key(2), 1))) // the clock is the node's: a new session finds it, and no last stamp
	gens[8] = 6
	init(8, stampOf(4, 0))
	b.ok(t, tick(greatest()))
	init(7, greatest())
	b.wantErr(t, "no stamp left", rekey(7), api.ErrClock)
	b.ok(t, tick(api.Stamp{}))
	b.wantErr(t, "no stamp left, whatever the clock", rekey(7), api.ErrClock)
	init(8, stampOf(4, 1))
	b.d.Claim()
	b.pd.Claim()
	b.wantErr(t, "stopped", tick(stampOf(1, 1)), api.ErrDown)
	b.wantErr(t, "stopped ahead of no stamp", tick(stampOf(-1, 1)), api.ErrDown)
}

// P20.4: no generation left; and which comes first.
func TestRekeyGen(t *testing.T) {
	peers := []api.Peer{peerOf(7, key(1)), peerOf(8, key(2))}
	lanes := []api.Lane{{Key: key(1), Cur: 5, Next: maxGen - 1}, {Key: key(2), Cur: maxGen}}
	b := over(t, laid(t, 64, 2, 8, rowsOf(peers, lanes, 0)), params(4, 64))
	b.ok(t, tick(greatest()))
	wantPacket(t, "the last generation", b.ok(t, rekey(7)).packet, key(1), 0, headOf(pkInit, 7, maxGen, 0), stampBytes(greatest()))
	b.arm(t, fault(1, io))
	b.wantErr(t, "no generation, ahead of no stamp and of a refusal", rekey(7), api.ErrGen)
	b.wantErr(t, "no generation", rekey(8), api.ErrGen)

	b = over(t, noSeqs(t, peers, lanes), params(4, 64))
	b.wantErr(t, "no seq", rekey(7), api.ErrSeqs)
	b.wantErr(t, "no generation ahead of no seq", rekey(8), api.ErrGen)
	b.wantErr(t, "no link ahead of no seq", rekey(0), api.ErrLink)
	b.wantErr(t, "no peer ahead of no seq", rekey(9), api.ErrNoPeer)
	b.arm(t, fault(1, io))
	b.wantErr(t, "no seq ahead of a refusal", rekey(7), api.ErrSeqs)
}

// P20.4: ErrClock ahead of ErrSeqs and ErrDevice; ErrDevice alone.
func TestRekeyCommit(t *testing.T) {
	peers := []api.Peer{peerOf(7, key(1)), peerOf(8, key(2))}
	lanes := []api.Lane{newLane(key(1), 0), newLane(key(2), 0)}
	b := over(t, laid(t, 64, 2, maxSeq-1, rowsOf(peers, lanes, 0)), params(4, 64))
	b.ok(t, tick(greatest()))
	b.wantOps(t, "the last seq", rekey(7), 2)
	b.wantErr(t, "no stamp ahead of no seq", rekey(7), api.ErrClock)
	b.wantErr(t, "no seq", rekey(8), api.ErrSeqs)
	for _, kind := range []int{power, io} {
		b = over(t, laid(t, 64, 2, 8, rowsOf(peers, lanes, 0)), params(4, 64))
		b.ok(t, tick(greatest()))
		b.ok(t, rekey(7))
		b.arm(t, fault(1, kind))
		b.wantErr(t, "no stamp ahead of a refusal", rekey(7), api.ErrClock)
		b.wantErr(t, "no peer ahead of a refusal", rekey(9), api.ErrNoPeer)
		b.wantErr(t, "no link ahead of a refusal", rekey(0), api.ErrLink)
		b.wantErr(t, "refused", rekey(8), api.ErrDevice)
		b.wantErr(t, "stopped ahead of no link", rekey(0), api.ErrDown)
		b.wantErr(t, "stopped ahead of no peer", rekey(9), api.ErrDown)
		b.wantErr(t, "stopped ahead of no stamp left", rekey(7), api.ErrDown)
	}
}

// P20.4: each init is committed ahead: a life that ends behind it never has its generation again.
func TestRekeyLives(t *testing.T) {
	b := fresh(t, 32, params(4, 64), add(7, key(1), 0))
	for i := range 30 {
		wantPacket(t, "an init", b.ok(t, rekey(7)).packet, key(1), 0, headOf(pkInit, 7, i+2, 0), stampBytes(stampOf(0, 1)))
		b.crash(nil)
		wantErr(t, "Boot", b.boot(t, params(4, 64)), api.OK)
		b.wantLanes(t, "behind a crash", withLane(newLane(key(1), 0), func(l *api.Lane) { l.Next = i + 2 }))
	}
}
