package node_test

import (
	"errors"
	"testing"

	"culvert/api"
	"culvert/node"
)

// The examples of the chapter, one behind the other: P20.1 to P20.7.
func TestExamples(t *testing.T) {
	n, m := fresh(t, 64, params(4, 64)), fresh(t, 64, params(4, 64))
	payloadP, payloadQ := pay("10.0.0.1", "10.1.0.1", "hi"), pay("10.1.0.1", "10.0.0.1", "hi")
	if n.n.Boots() != 1 || len(n.n.Peers()) != 0 || len(n.n.Lanes()) != 0 || n.n.Down() || n.n.Why() != nil {
		t.Fatal("a new node")
	}
	n.wantErr(t, "n.Send(P)", send(payloadP), api.ErrRoute)
	n.wantErr(t, "n.Send(nothing)", send(nil), api.ErrPayload)
	n.wantErr(t, "n.Rekey(7)", rekey(7), api.ErrNoPeer)
	n.wantErr(t, "n.Rekey(0)", rekey(0), api.ErrLink)

	n.ok(t, commit(add(7, key(1), 0), allow(7, "10.1.0.0/16")))
	m.ok(t, commit(add(7, key(1), 1), allow(7, "10.0.0.0/16")))
	p := n.ok(t, send(payloadP))
	if p.link != 7 {
		t.Fatalf("the link %d", p.link)
	}
	wantPacket(t, "p", p.packet, key(1), 0, headOf(pkData, 7, 1, 0), payloadP)
	m.wantDelivered(t, "m.Take(p)", p.packet, 7, payloadP)
	m.wantDrop(t, "m.Take(p) again", p.packet, api.DropReplay)
	n.wantDrop(t, "n.Take(p)", p.packet, api.DropSeal)
	n.wantDelivered(t, "n.Take(q)", m.ok(t, send(payloadQ)).packet, 7, payloadQ)

	m.ok(t, commit(deny(7, "10.0.0.0/16")))
	p = n.ok(t, send(payloadP))
	m.wantDrop(t, "a source that is denied", p.packet, api.DropSource)
	m.ok(t, commit(allow(7, "10.0.0.0/16")))
	m.wantDelivered(t, "the same", p.packet, 7, payloadP)

	n.ok(t, tick(stampOf(5, 0)))
	i := n.ok(t, rekey(7)).packet
	wantPacket(t, "i", i, key(1), 0, headOf(pkInit, 7, 2, 0), stampBytes(stampOf(5, 0)))
	r := m.wantTaken(t, "m.Take(i)", i, api.TkAnswered, 7)
	wantPacket(t, "r", r, key(1), 1, headOf(pkReply, 7, 2, 0), stampBytes(stampOf(5, 0)))
	n.wantTaken(t, "n.Take(r)", r, api.TkOpened, 7)

	old, oldPlain := n.n, n.p
	wantErr(t, "another Boot", n.boot(t, params(4, 64)), api.OK)
	if n.n.Boots() != 2 {
		t.Fatalf("n2.Boots() = %d", n.n.Boots())
	}
	n.wantView(t, "n2", 7, api.View{At: 5, Floor: 4})
	elder := &both{n: old, d: n.d, p: oldPlain, pd: n.pd}
	elder.wantErr(t, "n.Send(P)", send(payloadP), api.ErrDown)
	if !old.Down() || !errors.Is(old.Why(), api.ErrEnded) {
		t.Fatalf("n.Down() = %v, n.Why() = %v", old.Down(), old.Why())
	}

	n.arm(t, fault(1, io))
	n.wantErr(t, "n2.Send(P)", send(payloadP), api.ErrDevice)
	n.wantErr(t, "n2.Send(P) again", send(payloadP), api.ErrDown)
	if !errors.Is(n.n.Why(), api.ErrIO) {
		t.Fatalf("n2.Why() = %v", n.n.Why())
	}
	for _, p := range []api.Params{params(0, 64), params(4, 65)} {
		if x, e := node.Boot(n.d, p); x != nil || e != api.ErrParams {
			t.Fatalf("Boot(%v) = %v, %d", p, x, e)
		}
	}
}
