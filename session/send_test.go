package session_test

import (
	"bytes"
	"testing"

	"culvert/api"
)

// payloads that may be: of both families, without a body, with one, the longest.
func payloads() map[string][]byte {
	long := func(head []byte, n int) []byte { return append(head, bytes.Repeat([]byte{0xA5}, n-len(head))...) }
	return map[string][]byte{
		"family 4, no body":      fromTo(1, 2, ""),
		"family 4":               fromTo(1, 2, "hi"),
		"family 4, the longest":  long(fromTo(1, 2, ""), 1280),
		"family 6, no body":      fromTo6(1, 2, ""),
		"family 6":               fromTo6(1, 2, "hello"),
		"family 6, the longest":  long(fromTo6(1, 2, ""), 1280),
		"a source of nobody":     {4, 99, 9, 9, 9, 1, 2, 3, 4},
		"all zero addresses":     make4(9),
		"the source is the link": {4, 0, 0, 0, 7, 0, 0, 0, 7},
	}
}

func make4(n int) []byte {
	b := make([]byte, n)
	b[0] = 4
	return b
}

// noPayloads are such as may not be.
func noPayloads() map[string][]byte {
	six := make([]byte, 32)
	six[0] = 6
	return map[string][]byte{
		"none": nil, "an empty one": {}, "the family alone": {4}, "8 bytes": make4(8), "32 bytes of the family 6": six, "the family 6 with 9 bytes": {6, 0, 0, 0, 0, 0, 0, 0, 0},
		"the family 0": make([]byte, 40), "the family 5": append([]byte{5}, make([]byte, 40)...), "the family 7": append([]byte{7}, make([]byte, 40)...), "the family 68": append([]byte{68}, make([]byte, 40)...),
		"1281 bytes": make4(1281), "1281 bytes of the family 6": append([]byte{6}, make([]byte, 1280)...), "70000 bytes": make4(70000),
	}
}

// P19.2: payloads that may be, and that the packet opens to just these; those that may not.
func TestSendPayloads(t *testing.T) {
	for side := range 2 {
		b := newBoth(t, newLane(side), params(3, 64))
		at := uint64(0)
		for what, p := range payloads() {
			got := b.do(t, send(p))
			if got.err != api.OK {
				t.Fatalf("%s: %d", what, got.err)
			}
			b.wantPacket(t, what, got.packet, headOf(pkData, 7, 1, at), p)
			at++
		}
		for what, p := range noPayloads() {
			b.wantErr(t, what, send(p), api.ErrPayload, 0)
			b.wantErr(t, what, send(p).but(api.ErrIO), api.ErrPayload, 0)
		}
		wantView(t, "behind all", b.s, api.View{At: at})
	}
}

// P19.2: the counters one behind the other, each block reserved when its first one comes, and not ahead of that.
func TestSendCounters(t *testing.T) {
	for _, block := range []int{1, 2, 3, 7, maxBlock} {
		for _, from := range []uint64{0, 1, 100, 1 << 32, 1 << 63} {
			l := with(someLane(), func(l *api.Lane) { l.SendCur = from })
			b := newBoth(t, l, params(block, 64))
			for i := range 20 {
				at := from + uint64(i)
				got := b.do(t, send(fromTo(1, 2, "x")))
				b.wantPacket(t, "data", got.packet, headOf(pkData, 7, 3, at), fromTo(1, 2, "x"))
				if first := i%block == 0; first != (len(got.commits) == 1) {
					t.Fatalf("the block %d, the counter %d: %d commits", block, at, len(got.commits))
				} else if first && !sameLane(got.commits[0], with(l, func(l *api.Lane) { l.SendCur = at + uint64(block) })) {
					t.Fatalf("the block %d, the counter %d: %+v is committed", block, at, got.commits[0])
				}
				wantView(t, "At", b.s, api.View{At: at + 1, Floor: 40})
			}
		}
	}
}

// P19.2: at the last counters; above them ErrCounter, for ever, but only for a payload.
func TestSendLastCounters(t *testing.T) {
	for _, block := range []int{1, 2, 5, maxBlock} {
		for below := range uint64(7) {
			l := with(someLane(), func(l *api.Lane) { l.SendCur = maxCounter + 1 - below })
			b := newBoth(t, l, params(block, 64))
			for at := l.SendCur; at <= maxCounter; at++ {
				got := b.do(t, send(fromTo(1, 2, "x")))
				b.wantPacket(t, "data", got.packet, headOf(pkData, 7, 3, at), fromTo(1, 2, "x"))
			}
			for range 3 {
				b.wantErr(t, "above MaxCounter", send(fromTo(1, 2, "x")), api.ErrCounter, 0)
				b.wantErr(t, "above MaxCounter, and no commit", send(fromTo(1, 2, "x")).but(api.ErrIO), api.ErrCounter, 0)
				b.wantErr(t, "above MaxCounter, and no payload", send(nil), api.ErrPayload, 0)
			}
			wantView(t, "behind the last", b.s, api.View{At: maxCounter + 1, Floor: 40})
		}
	}
}

// P19.2: a new generation has counters again.
func TestSendBehindNewGeneration(t *testing.T) {
	b := newBoth(t, with(newLane(0), func(l *api.Lane) { l.SendCur = maxCounter + 1 }), params(2, 64))
	b.wantErr(t, "above MaxCounter", send(fromTo(1, 2, "")), api.ErrCounter, 0)
	b.wantTaken(t, "an init", b.init(4, 0, stampOf(1, 0)), home(), api.TkAnswered, 1)
	for at := uint64(1); at < 6; at++ {
		got := b.do(t, send(fromTo(1, 2, "")))
		b.wantPacket(t, "data", got.packet, headOf(pkData, 7, 4, at), fromTo(1, 2, ""))
		if commits := map[uint64]int{2: 1, 4: 1}[at]; len(got.commits) != commits {
			t.Fatalf("the counter %d: %d commits", at, len(got.commits))
		}
	}
}

// P19.2: a commit that refuses, at the first counter of each block: its error, no packet, and the same call again is as if the first had never been.
func TestSendRefused(t *testing.T) {
	b := newBoth(t, with(someLane(), func(l *api.Lane) { l.SendCur = maxCounter - 4 }), params(2, 64))
	for at := maxCounter - 4; at <= maxCounter; at++ {
		if b.p.at == b.p.lane.SendCur {
			for _, e := range []api.Errno{api.ErrIO, api.ErrPower, api.ErrPayload, api.ErrCounter, -1, 1, 1 << 40} {
				b.wantErr(t, "refused", send(fromTo(1, 2, "x")).but(e), e, 1)
			}
			b.wantErr(t, "no payload, and refused", send(nil).but(api.ErrIO), api.ErrPayload, 0)
		} else if got := b.do(t, send(fromTo(1, 2, "y")).but(api.ErrIO)); got.err != api.OK || len(got.commits) != 0 { // nothing is committed, so nothing is refused
			t.Fatalf("the counter %d: %+v", at, got)
		} else {
			continue
		}
		got := b.do(t, send(fromTo(1, 2, "x")))
		b.wantPacket(t, "data", got.packet, headOf(pkData, 7, 3, at), fromTo(1, 2, "x"))
	}
	b.wantErr(t, "above MaxCounter", send(fromTo(1, 2, "x")).but(api.ErrIO), api.ErrCounter, 0)
}
