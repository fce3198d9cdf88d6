package session_test

import (
	"testing"

	"culvert/api"
)

// The examples of the chapter, one behind the other.
func TestExamples(t *testing.T) {
	a, b := newBoth(t, newLane(0), params(4, 64)), newBoth(t, newLane(1), params(4, 64))
	payloadP, payloadQ := fromTo(1, 1, "P"), fromTo(1, 1, "Q")
	committed := func(what string, got answer, want ...api.Lane) {
		t.Helper()
		if len(got.commits) != len(want) || len(want) > 0 && !sameLane(got.commits[0], want[0]) {
			t.Fatalf("%s: %+v, want the commits %+v", what, got, want)
		}
	}
	lane := func(side, cur, next int, sendCur, ceil uint64, sec int) api.Lane {
		return api.Lane{Key: key(1), Side: side, Cur: cur, Next: next, SendCur: sendCur, Ceil: ceil, Seen: stampOf(sec, 0)}
	}

	p := a.do(t, send(payloadP))
	committed("a.Send(P)", p, lane(0, 1, 0, 4, 0, 0))
	a.wantPacket(t, "p", p.packet, headOf(api.PkData, 7, 1, 0), payloadP)
	wantView(t, "a", a.s, api.View{At: 1})

	b.wantDrop(t, "a table without prefixes", p.packet, noWay(), api.DropSource)
	x := b.wantTaken(t, "with t", p.packet, home(), api.TkDelivered, 1)
	committed("with t", x, lane(1, 1, 0, 0, 4, 0))
	if string(x.taken.Data) != string(payloadP) {
		t.Fatalf("%x is delivered", x.taken.Data)
	}
	b.wantDrop(t, "with t again", p.packet, home(), api.DropReplay)

	q := a.do(t, send(payloadQ))
	committed("a.Send(Q)", q)
	a.wantPacket(t, "q", q.packet, headOf(api.PkData, 7, 1, 1), payloadQ)
	if x := b.wantTaken(t, "q", q.packet, home(), api.TkDelivered, 0); string(x.taken.Data) != string(payloadQ) {
		t.Fatalf("%x is delivered", x.taken.Data)
	}
	a.wantDrop(t, "a.Take(q)", q.packet, home(), api.DropSeal)

	i := a.do(t, rekey(stampOf(5, 0)))
	committed("a.Rekey(5.0)", i, lane(0, 1, 2, 4, 0, 0))
	a.wantPacket(t, "i", i.packet, headOf(api.PkInit, 7, 2, 0), stampBytes(stampOf(5, 0)))
	r := b.wantTaken(t, "b.Take(i)", i.packet, home(), api.TkAnswered, 1)
	committed("b.Take(i)", r, lane(1, 2, 0, 4, 4, 5))
	b.wantPacket(t, "r", r.taken.Data, headOf(api.PkReply, 7, 2, 0), stampBytes(stampOf(5, 0)))
	b.wantDrop(t, "b.Take(i) again", i.packet, home(), api.DropGen)
	wantView(t, "b", b.s, api.View{At: 1, HasTop: true, Olds: []int{1}})

	p = a.do(t, send(payloadP))
	committed("a.Send(P)", p)
	a.wantPacket(t, "p", p.packet, headOf(api.PkData, 7, 1, 2), payloadP)
	o := a.wantTaken(t, "a.Take(r)", r.taken.Data, home(), api.TkOpened, 1)
	committed("a.Take(r)", o, lane(0, 2, 2, 5, 4, 0))
	a.wantDrop(t, "a.Take(r) again", r.taken.Data, home(), api.DropGen)

	later := newBoth(t, b.s.Lane(), params(4, 64))
	if x := b.wantTaken(t, "an older generation", p.packet, home(), api.TkDelivered, 0); string(x.taken.Data) != string(payloadP) {
		t.Fatalf("%x is delivered", x.taken.Data)
	}

	i = a.do(t, rekey(stampOf(4, 0)))
	committed("a.Rekey(4.0)", i, lane(0, 2, 3, 5, 4, 0))
	a.wantPacket(t, "the third init", i.packet, headOf(api.PkInit, 7, 3, 0), stampBytes(stampOf(5, 1)))
	i = a.do(t, rekey(stampOf(9, 0)))
	committed("a.Rekey(9.0)", i, lane(0, 2, 4, 5, 4, 0))
	a.wantPacket(t, "the fourth init", i.packet, headOf(api.PkInit, 7, 4, 0), stampBytes(stampOf(9, 0)))

	a.wantErr(t, "a.Send(nothing)", send(nil), api.ErrPayload, 0)
	a.wantErr(t, "a.Rekey({0, -1})", rekey(stampOf(0, -1)), api.ErrStamp, 0)
	later.wantDrop(t, "a new session of b's lane", p.packet, home(), api.DropGen)
}
