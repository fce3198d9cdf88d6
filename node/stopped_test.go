package node_test

import (
	"errors"
	"fmt"
	"testing"

	"culvert/api"
	"culvert/disk"
	"culvert/node"
	"culvert/store"
	"culvert/wal"
)

// lastPlaces is a device with this state whose region has so many places left behind the transaction of a Boot.
func lastPlaces(t *testing.T, left int, peers []api.Peer, lanes []api.Lane) *disk.Disk {
	t.Helper()
	l := rowsOf(peers, lanes, 5)
	pieces := (len(bytesOf(l)) + 479) / 480
	return laid(t, 64, 2, 9, l, flips(31-pieces-1-left, lanes[0])...)
}

// committing is a call that commits something, of a node that make makes anew each time.
type committing struct {
	what string
	make func() *both
	call func(b *both) call
	ops  int
}

// allCommitting are calls of all kinds that commit something, with a checkpoint and without.
func allCommitting(t *testing.T) []committing {
	t.Helper()
	peers := []api.Peer{peerOf(7, key(1), "10.7.0.0/16")}
	lanes := []api.Lane{{Key: key(1), Cur: 4, Next: 6, SendCur: 7, Ceil: 20, Seen: stampOf(3, 0)}}
	var out []committing
	for _, left := range []int{3, 0} {
		begin := func() *both {
			b := over(t, lastPlaces(t, left+1, peers, lanes), params(4, 64))
			b.ok(t, tick(stampOf(5, 0)))
			b.ok(t, rekey(7))
			return b
		}
		ops, text := 2, ""
		if left == 0 {
			ops, text = 2+1+3, ", with a checkpoint" // a piece, a superblock, two flushes
		}
		payload := pay("10.7.0.1", "10.7.0.2", "x")
		for what, call := range map[string]func(b *both) call{
			"Commit": func(b *both) call { return commit(allow(7, "11.0.0.0/8"), add(8, key(2), 1)) },
			"Send":   func(b *both) call { return send(payload) },
			"Rekey":  func(b *both) call { return rekey(7) },
			"init":   func(b *both) call { return take(b.from(pkInit, 7, 9, 0, stampBytes(stampOf(4, 0)))) },
			"reply":  func(b *both) call { return take(b.from(pkReply, 7, 7, 0, stampBytes(stampOf(5, 0)))) },
			"data":   func(b *both) call { return take(b.from(pkData, 7, 4, 30, payload)) },
		} {
			out = append(out, committing{what + text, begin, call, ops})
		}
	}
	widePeers, wideLanes := many(10, 16, 15)
	long := func(b *both) call { return commit(more(10)...) } // 3,300 bytes: 7 pieces
	return append(out,
		committing{"a long Commit", func() *both { return over(t, lastPlaces(t, 8, widePeers, wideLanes), params(4, 64)) }, long, 7 + 3},
		committing{"a long Commit, with a checkpoint", func() *both { return over(t, lastPlaces(t, 7, widePeers, wideLanes), params(4, 64)) }, long, 9 + 3 + 7 + 3})
}

// anyCalls are calls of all kinds: such as would be done, refused, or dropped.
func anyCalls() []call {
	return []call{
		commit(add(11, key(11), 0)), commit(allow(7, "12.0.0.0/8"), deny(7, "12.0.0.0/8")), commit(), commit(remove(99)),
		send(pay("10.7.0.1", "10.7.0.2", "x")), send(pay("10.7.0.1", "99.0.0.1", "x")), send(nil),
		rekey(7), rekey(0), rekey(99), tick(stampOf(6, 0)), tick(stampOf(-1, 0)),
		take(sealed(key(1), 1, headOf(pkData, 7, 4, 90), pay("10.7.0.1", "10.7.0.2", "x"))), take(sealed(key(1), 1, headOf(pkInit, 7, 44, 0), stampBytes(stampOf(90, 0)))), take(sealed(key(1), 1, headOf(pkData, 99, 4, 90), pay("10.7.0.1", "10.7.0.2", "x"))), take(nil),
	}
}

// wantStopped: every call answers ErrDown and does no operation, every look tells nothing, and Why tells just this.
func (b *both) wantStopped(t *testing.T, what string, why api.Errno) {
	t.Helper()
	stood := standOf(b.d)
	for range 2 {
		for _, c := range anyCalls() {
			b.wantErr(t, what, c, api.ErrDown)
		}
		if !b.n.Down() || len(b.n.Peers()) != 0 || len(b.n.Lanes()) != 0 || b.n.Boots() != 0 {
			b.fail(t, "%s: Down() = %v, Peers() = %v, Lanes() = %v, Boots() = %d", what, b.n.Down(), b.n.Peers(), b.n.Lanes(), b.n.Boots())
		}
		if v, ok := b.n.View(7); ok || !sameView(v, api.View{}) {
			b.fail(t, "%s: View(7) = %+v, %v", what, v, ok)
		}
		for _, e := range []api.Errno{api.ErrIO, api.ErrPower, api.ErrEnded, api.ErrDevice, api.ErrDown, api.OK} {
			if got := errors.Is(b.n.Why(), e); got != (e == why) {
				b.fail(t, "%s: Why() = %v, which is %d: %v", what, b.n.Why(), e, got)
			}
		}
		var own api.Errno
		if !errors.As(b.n.Why(), &own) || own != why || b.n.Why() == error(own) {
			b.fail(t, "%s: Why() = %v, which wraps %d", what, b.n.Why(), own)
		}
	}
	wantStand(t, what, b.d, stood)
}

// Stopped, P20.2 to P20.7: each operation of each call that commits something refused, with and without a loss of power: ErrDevice and nothing else; what was done ahead of it stays; the node is stopped by that for ever, whatever claims are taken then.
func TestStoppedByRefusal(t *testing.T) {
	t.Parallel()
	for _, x := range allCommitting(t) {
		b := x.make()
		b.wantOps(t, x.what, x.call(b), x.ops)
		for k := 1; k <= x.ops; k++ {
			for _, kind := range []int{power, io} {
				what := fmt.Sprintf("%s, the operation %d meets %d", x.what, k, kind)
				b := x.make()
				b.arm(t, fault(k, kind))
				b.wantErr(t, what, x.call(b), api.ErrDevice)
				if b.d.Done() != k || b.d.Power() != (kind == io) {
					t.Fatalf("%s: %v", what, standOf(b.d))
				}
				b.wantStopped(t, what, errOf(kind))
				b.d.Claim()
				b.pd.Claim()
				b.wantStopped(t, what+", and a claim", errOf(kind))
			}
		}
		b = x.make()
		b.arm(t, fault(x.ops+1, power))
		b.wantOps(t, x.what+", the operation behind it armed", x.call(b), x.ops)
	}
}

// Stopped: a device that refuses, or whose power is off, stops a node only when a call meets that: what asks for no operation goes on.
func TestNotStoppedUnmet(t *testing.T) {
	for _, kind := range []int{power, io} {
		b := lively(t)
		b.arm(t, fault(1, kind))
		wantErr(t, "Flush", b.d.Flush(), errOf(kind)) // by hand: no call of the node
		wantErr(t, "Flush", b.pd.Flush(), errOf(kind))
		b.wantOps(t, "reserved", send(pay("1.1.1.1", "10.7.0.1", "x")), 0)
		b.wantOps(t, "Tick", tick(stampOf(8, 0)), 0)
		b.wantOps(t, "nothing", commit(allow(7, "11.0.0.0/8"), deny(7, "11.0.0.0/8")), 0)
		b.wantOps(t, "below the ceiling", take(b.from(pkData, 8, 4, 10, pay("10.8.0.1", "1.1.1.1", "x"))), 0)
		b.wantDrop(t, "dropped", nil, api.DropForm)
		if b.n.Down() || b.n.Why() != nil {
			t.Fatalf("Down() = %v, Why() = %v", b.n.Down(), b.n.Why())
		}
		if kind == io {
			b.wantOps(t, "an operation that is not refused", rekey(7), 2)
			continue
		}
		b.wantErr(t, "the power is off", rekey(7), api.ErrDevice)
		b.wantStopped(t, "the power is off", api.ErrPower)
	}
}

// Stopped: by a claim that was taken by hand, by an Open of a log or a store, by a Boot that answers OK, and by one that is refused at each of its operations.
func TestStoppedByClaim(t *testing.T) {
	t.Parallel()
	each := func(b *both, do func(d *disk.Disk)) {
		do(b.d)
		do(b.pd)
	}
	ways := map[string]func(b *both){
		"by hand":       func(b *both) { each(b, func(d *disk.Disk) { d.Claim() }) },
		"many by hand":  func(b *both) { each(b, func(d *disk.Disk) { d.Claim(); d.Claim(); d.Claim() }) },
		"by store.Open": func(b *both) { each(b, func(d *disk.Disk) { mustOpen(t, d) }) },
		"by wal.Open":   func(b *both) { each(b, func(d *disk.Disk) { wal.Open(d) }) },
		"by another Boot": func(b *both) {
			each(b, func(d *disk.Disk) {
				n, e := node.Boot(d, params(9, 128))
				wantErr(t, "Boot", e, api.OK)
				if n.Down() || n.Boots() != 2 {
					t.Fatalf("the younger node: %v, %d", n.Down(), n.Boots())
				}
			})
		},
		"without power": func(b *both) { each(b, func(d *disk.Disk) { off(t, d); store.Open(d) }) },
	}
	for k := 1; k <= 10; k++ {
		ways[fmt.Sprintf("by a Boot that is refused at %d", k)] = func(b *both) {
			each(b, func(d *disk.Disk) {
				arm(t, d, fault(k, io))
				wantNoBoot(t, "refused", d, params(9, 128), api.ErrDevice)
				arm(t, d)
			})
		}
	}
	for what, stop := range ways {
		b := fresh(t, 64, params(4, 64), add(7, key(1), 0), allow(7, "10.7.0.0/16"))
		b.ok(t, send(pay("1.1.1.1", "10.7.0.1", "x")))
		b.ok(t, rekey(7))
		b.ok(t, rekey(7))
		stop(b)
		b.wantStopped(t, what, api.ErrEnded)
		each(b, func(d *disk.Disk) { d.Claim() })
		b.wantStopped(t, what+", and a claim more", api.ErrEnded)
	}
}

// Stopped: what is no claim stops nobody: operations by hand, an Arm, looks at the device; a claim of another device.
func TestNotStopped(t *testing.T) {
	b := fresh(t, 64, params(4, 64), add(7, key(1), 0), allow(7, "10.7.0.0/16"))
	for _, d := range []*disk.Disk{b.d, b.pd} {
		d.Read(5)
		d.Flush()
		d.Pending()
		d.Durable()
		wantErr(t, "Arm", d.Arm([]api.Fault{{At: 1000, Kind: io}}), api.OK)
	}
	other := fresh(t, 64, params(4, 64))
	other.d.Claim()
	other.pd.Claim()
	other.wantStopped(t, "the other one", api.ErrEnded)
	b.look(t)
	b.ok(t, send(pay("1.1.1.1", "10.7.0.1", "x")))
	b.ok(t, rekey(7))
}

// Stopped: a stopped node and the younger one over its device beside one another: the elder changes nothing, whatever it is asked.
func TestStoppedBesideYounger(t *testing.T) {
	b := fresh(t, 64, params(4, 64), add(7, key(1), 0), allow(7, "10.7.0.0/16"))
	elder := &both{n: b.n, d: b.d, p: b.p, pd: b.pd}
	for i := range 5 {
		wantErr(t, "Boot", b.boot(t, params(4, 64)), api.OK)
		for _, c := range anyCalls() {
			b.do(t, c)
			elder.wantErr(t, "the elder", c, api.ErrDown)
			b.look(t)
		}
		if b.n.Boots() != i+2 || b.n.Down() {
			t.Fatalf("Boots() = %d, Down() = %v", b.n.Boots(), b.n.Down())
		}
		b.do(t, commit(remove(11)))
	}
}
