package session_test

import (
	"testing"

	"culvert/api"
)

// wantOpened: a reply is taken, behind the commit of this lane.
func (b *both) wantOpened(t *testing.T, what string, gen int, counter uint64, s api.Stamp, olds []int, openings []api.Opening) {
	t.Helper()
	was, last := b.s.Lane(), b.s.View().Last
	got := b.wantTaken(t, what, b.reply(gen, counter, s), noWay(), api.TkOpened, 1)
	block := b.p.block
	lane := with(was, func(l *api.Lane) { l.Cur, l.SendCur, l.Ceil = gen, plainUp(1, block), plainUp(counter, block) })
	if !sameLane(got.commits[0], lane) || len(got.taken.Data) != 0 {
		t.Fatalf("%s: %+v, want the lane %+v", what, got, lane)
	}
	wantLane(t, what, b.s, lane)
	wantView(t, what, b.s, api.View{At: 1, Floor: 0, Top: counter, HasTop: true, Olds: olds, Openings: openings, Last: last})
}

// P19.4: a reply to each opening; those of its generation and below are no more, those above still are.
func TestReplyGenerations(t *testing.T) {
	openings := []api.Opening{{Gen: 7, Stamp: stampOf(7, 0)}, {Gen: 6, Stamp: stampOf(5, 1)}, {Gen: 5, Stamp: stampOf(5, 0)}}
	for i, o := range openings {
		for side := range 2 {
			b := lively(t, side)
			b.wantOpened(t, "a reply", o.Gen, 0, o.Stamp, []int{4, 3}, openings[:i])
			b.wantDrop(t, "the same again", b.reply(o.Gen, 0, o.Stamp), home(), api.DropGen)
			b.wantDrop(t, "another one to the same", b.reply(o.Gen, 5, o.Stamp), home(), api.DropGen)
			for _, gone := range openings[i:] {
				b.wantDrop(t, "a reply to what is no more", b.reply(gone.Gen, 1, gone.Stamp), home(), api.DropGen)
			}
			for k := i - 1; k >= 0; k-- {
				olds := []int{openings[k+1].Gen, 4, 3}
				if k+2 <= i {
					olds = []int{6, 5, 4, 3}
				}
				b.wantOpened(t, "a reply to one that still is", openings[k].Gen, 1, openings[k].Stamp, olds, openings[:k])
			}
		}
	}
}

// P19.4: the reply's counter: Ceil is a block above it, the window has taken it and nothing else; At is 1, whatever it is.
func TestReplyCounters(t *testing.T) {
	for _, c := range []uint64{0, 1, 2, 63, 64, 65, 1000, 1 << 63, maxCounter - 1, maxCounter} {
		for _, block := range []int{1, 4, maxBlock} {
			b := newBoth(t, someLane(), params(block, 64))
			b.wantInit(t, "init", stampOf(8, 0), 6, stampOf(8, 0))
			b.wantOpened(t, "a reply", 6, c, stampOf(8, 0), []int{3}, nil)
			b.wantDrop(t, "its counter", b.data(6, c), home(), api.DropReplay)
			if c > 0 {
				b.wantTaken(t, "below it, the floor being 0", b.data(6, c-1), home(), api.TkDelivered, 0)
			}
			if c >= 64 {
				b.wantDrop(t, "out of reach", b.data(6, c-64), home(), api.DropReplay)
			}
			for at := uint64(1); at < 4; at++ {
				b.wantPacket(t, "data", b.do(t, send(fromTo(1, 2, ""))).packet, headOf(pkData, 7, 6, at), fromTo(1, 2, ""))
			}
		}
	}
}

// P19.4: a reply's stamp is held against its own opening's alone, in all of its bytes, and not against Seen.
func TestReplyStamps(t *testing.T) {
	for _, clock := range []api.Stamp{stampOf(0, 1), stampOf(5, 7), stampOf(5, 8), stampOf(1<<40, 1<<20), greatest()} {
		b := newBoth(t, someLane(), params(4, 64)) // Seen is 5.7
		b.wantInit(t, "init", clock, 6, clock)
		for i := range 12 {
			for bit := range 8 {
				text := stampBytes(clock)
				text[i] ^= 1 << bit
				b.wantDrop(t, "another stamp", b.from(pkReply, 6, 0, text), home(), api.DropStamp)
			}
		}
		b.wantOpened(t, "its own", 6, 0, clock, []int{3}, nil)
		if seen := b.s.Lane().Seen; seen != stampOf(5, 7) {
			t.Fatalf("a reply has changed Seen to %v", seen)
		}
	}
}

// P19.4: a reply to an init of an elder session, which this one does not know.
func TestReplyToAnElderSession(t *testing.T) {
	b := newBoth(t, newLane(0), params(4, 64))
	b.wantInit(t, "init", stampOf(5, 0), 2, stampOf(5, 0))
	later := newBoth(t, b.s.Lane(), params(4, 64))
	r := b.reply(2, 0, stampOf(5, 0))
	later.wantDrop(t, "behind a new session", r, home(), api.DropGen)
	later.wantInit(t, "init", stampOf(5, 0), 3, stampOf(5, 0))
	later.wantDrop(t, "behind a new session's init", r, home(), api.DropGen)
	b.wantOpened(t, "in its own session", 2, 0, stampOf(5, 0), []int{1}, nil)
}

// P19.4: what one has proposed, and then came as the other side's init, is no opening any more; data behind it is of the new generation.
func TestReplyBehindAnInit(t *testing.T) {
	b := newBoth(t, newLane(1), params(4, 64))
	b.wantInit(t, "init", stampOf(5, 0), 2, stampOf(5, 0))
	b.wantInit(t, "init", stampOf(6, 0), 3, stampOf(6, 0))
	b.wantInit(t, "init", stampOf(7, 0), 4, stampOf(7, 0))
	b.wantAnswered(t, "an init between", 3, 0, stampOf(1, 0), 1, []int{1}, []api.Opening{{Gen: 4, Stamp: stampOf(7, 0)}})
	b.wantDrop(t, "below", b.reply(2, 0, stampOf(5, 0)), home(), api.DropGen)
	b.wantDrop(t, "at", b.reply(3, 0, stampOf(6, 0)), home(), api.DropGen)
	b.wantOpened(t, "above", 4, 0, stampOf(7, 0), []int{3, 1}, nil)
}
