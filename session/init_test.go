package session_test

import (
	"testing"

	"culvert/api"
)

// wantAnswered: an init is answered with this counter, behind the commit of this lane; the window of its generation, At, the older windows and the openings are as they must be.
func (b *both) wantAnswered(t *testing.T, what string, gen int, counter uint64, s api.Stamp, own uint64, olds []int, openings []api.Opening) {
	t.Helper()
	was, last := b.s.Lane(), b.s.View().Last
	got := b.wantTaken(t, what, b.init(gen, counter, s), noWay(), api.TkAnswered, 1)
	block := b.p.block
	lane := with(was, func(l *api.Lane) {
		l.Cur, l.SendCur, l.Ceil, l.Seen = gen, plainUp(own, block), plainUp(counter, block), s
	})
	if !sameLane(got.commits[0], lane) {
		t.Fatalf("%s: %+v is committed, want %+v", what, got.commits[0], lane)
	}
	b.wantPacket(t, what, got.taken.Data, headOf(pkReply, b.p.link, gen, own), stampBytes(s))
	wantLane(t, what, b.s, lane)
	wantView(t, what, b.s, api.View{At: own + 1, Floor: 0, Top: counter, HasTop: true, Olds: olds, Openings: openings, Last: last})
}

// P19.4: the answer's counter is 1 up to Next, 0 above it; and openings of the generation and of those below are no more.
func TestInitGenerations(t *testing.T) {
	five, six, seven := api.Opening{Gen: 5, Stamp: stampOf(5, 0)}, api.Opening{Gen: 6, Stamp: stampOf(5, 1)}, api.Opening{Gen: 7, Stamp: stampOf(7, 0)}
	for _, x := range []struct {
		gen      int
		own      uint64
		openings []api.Opening
	}{
		{5, 1, []api.Opening{seven, six}},
		{6, 1, []api.Opening{seven}},
		{7, 1, nil},
		{8, 0, nil},
		{9, 0, nil},
		{maxGen, 0, nil},
	} {
		for side := range 2 {
			b := lively(t, side)
			b.wantAnswered(t, "an init", x.gen, 0, stampOf(3, 0), x.own, []int{4, 3}, x.openings)
			for _, o := range []api.Opening{five, six, seven} {
				r := b.reply(o.Gen, 3, o.Stamp)
				if o.Gen <= x.gen {
					b.wantDrop(t, "a reply to what is no more", r, home(), api.DropGen)
				} else {
					b.wantTaken(t, "a reply to what still is", r, home(), api.TkOpened, 1)
				}
			}
		}
	}
}

// P19.4: the init's counter: Ceil is a block above it, the window has taken it and nothing else.
func TestInitCounters(t *testing.T) {
	for _, c := range []uint64{0, 1, 2, 63, 64, 65, 1000, 1 << 32, 1 << 63, maxCounter - 5, maxCounter - 1, maxCounter} {
		for _, block := range []int{1, 4, maxBlock} {
			b := newBoth(t, someLane(), params(block, 64))
			b.wantAnswered(t, "an init", 9, c, stampOf(6, 0), 0, []int{3}, nil)
			b.wantDrop(t, "its counter", b.data(9, c), home(), api.DropReplay)
			for _, back := range []uint64{1, 63, 64, 65} {
				switch {
				case back > c:
				case back < 64:
					b.wantTaken(t, "below it, the floor being 0", b.data(9, c-back), home(), api.TkDelivered, 0)
				default:
					b.wantDrop(t, "out of reach", b.data(9, c-back), home(), api.DropReplay)
				}
			}
			if c < maxCounter {
				commits := 0
				if block == 1 {
					commits = 1
				}
				b.wantTaken(t, "above it", b.data(9, c+1), home(), api.TkDelivered, commits)
			}
		}
	}
}

// P19.4: stamps at Seen, below it and above it, at the edges.
func TestInitStamps(t *testing.T) {
	for _, seen := range []api.Stamp{{}, stampOf(0, 1), stampOf(5, 0), stampOf(5, maxNano), stampOf(6, 7), stampOf(maxSec, 0), stampOf(maxSec, maxNano-1), greatest()} {
		for _, more := range []int64{-1_000_000_000, -2, -1, 0, 1, 2, 1_000_000_000} {
			s := above(seen, more)
			b := newBoth(t, with(someLane(), func(l *api.Lane) { l.Seen = seen }), params(4, 64))
			if place(s).Cmp(place(seen)) <= 0 {
				b.wantDrop(t, "not above Seen", b.init(9, 0, s), home(), api.DropStamp)
			} else {
				b.wantAnswered(t, "above Seen", 9, 0, s, 0, []int{3}, nil)
				b.wantDrop(t, "the same stamp again", b.init(10, 0, s), home(), api.DropStamp)
			}
		}
		b := newBoth(t, with(someLane(), func(l *api.Lane) { l.Seen = seen }), params(4, 64))
		b.wantDrop(t, "the zero stamp", b.init(9, 0, api.Stamp{}), home(), api.DropStamp)
		if seen != greatest() {
			b.wantAnswered(t, "the greatest stamp", 9, 0, greatest(), 0, []int{3}, nil)
		}
	}
}

// P19.4: the last generation, and none above it.
func TestInitLastGeneration(t *testing.T) {
	b := newBoth(t, with(someLane(), func(l *api.Lane) { l.Cur, l.Next = maxGen-1, maxGen }), params(4, 64))
	b.wantDrop(t, "Cur", b.init(maxGen-1, 0, stampOf(9, 0)), home(), api.DropGen)
	b.wantAnswered(t, "MaxGen", maxGen, 0, stampOf(9, 0), 1, []int{maxGen - 1}, nil)
	b.wantDrop(t, "again", b.init(maxGen, 1, stampOf(10, 0)), home(), api.DropGen)
}

// P19.4: the first counters behind an answer: At is one more than the answer's, and no counter is reserved again before the block is at its end.
func TestSendBehindInit(t *testing.T) {
	for _, block := range []int{1, 2, 5} {
		for _, next := range []int{3, 9} { // the answer's counter is 0, is 1
			b := newBoth(t, with(someLane(), func(l *api.Lane) { l.Next = next }), params(block, 64))
			own := uint64(0)
			if next == 9 {
				own = 1
			}
			b.wantAnswered(t, "an init", 9, 0, stampOf(6, 0), own, []int{3}, nil)
			for at := own + 1; at < 12; at++ {
				got := b.do(t, send(fromTo(1, 2, "x")))
				b.wantPacket(t, "data", got.packet, headOf(pkData, 7, 9, at), fromTo(1, 2, "x"))
				if first := (at-own)%uint64(block) == 0; first != (len(got.commits) == 1) {
					t.Fatalf("the block %d, the counter %d: %d commits", block, at, len(got.commits))
				}
			}
		}
	}
}

// P19.4: inits of both sides at one time, of one generation: both are answered, each with the counter 1, and both replies come to a generation that is Cur.
func TestInitsOfBothSides(t *testing.T) {
	a, b := newBoth(t, newLane(0), params(2, 64)), newBoth(t, newLane(1), params(2, 64))
	i, j := a.do(t, rekey(stampOf(5, 0))).packet, b.do(t, rekey(stampOf(4, 0))).packet
	r := b.wantTaken(t, "a's init", i, home(), api.TkAnswered, 1).taken.Data
	s := a.wantTaken(t, "b's init", j, home(), api.TkAnswered, 1).taken.Data
	b.wantPacket(t, "b's reply", r, headOf(pkReply, 7, 2, 1), stampBytes(stampOf(5, 0)))
	a.wantPacket(t, "a's reply", s, headOf(pkReply, 7, 2, 1), stampBytes(stampOf(4, 0)))
	a.wantDrop(t, "b's reply", r, home(), api.DropGen)
	b.wantDrop(t, "a's reply", s, home(), api.DropGen)
	for n := range 6 {
		p, q := a.do(t, send(fromTo(1, 2, "p"))), b.do(t, send(fromTo(1, 2, "q")))
		a.wantPacket(t, "a's data", p.packet, headOf(pkData, 7, 2, uint64(2+n)), fromTo(1, 2, "p"))
		b.wantTaken(t, "a's data", p.packet, home(), api.TkDelivered, 1-n%2)
		a.wantTaken(t, "b's data", q.packet, home(), api.TkDelivered, 1-n%2)
	}
}

// P19.4: more than MaxOld older windows: the oldest goes, and data of its generation with it; what the others have taken they remember.
func TestManyOlderWindows(t *testing.T) {
	for many := range 9 {
		b := newBoth(t, newLane(many%2), params(4, 64))
		var olds []int
		for i := range many {
			b.wantTaken(t, "data", b.data(1+i, 20), home(), api.TkDelivered, 1)
			olds = append([]int{1 + i}, olds[:min(len(olds), 3)]...)
			if i%2 == 0 {
				b.wantAnswered(t, "an init", 2+i, 5, stampOf(1+i, 0), 0, olds, nil)
			} else {
				b.wantInit(t, "init", stampOf(i, 0), 2+i, stampOf(i, 0))
				b.wantTaken(t, "its reply", b.reply(2+i, 5, stampOf(i, 0)), home(), api.TkOpened, 1)
			}
			wantView(t, "windows", b.s, api.View{At: 1, Top: 5, HasTop: true, Olds: olds, Last: b.p.last})
		}
		for gen := 1; gen <= many+1; gen++ {
			switch {
			case gen < many+1-4:
				b.wantDrop(t, "a window that is no more", b.data(gen, 21), home(), api.DropGen)
			case gen == many+1:
				b.wantTaken(t, "of Cur", b.data(gen, 21), home(), api.TkDelivered, 1)
			default:
				b.wantDrop(t, "of an older window, taken", b.data(gen, 20), home(), api.DropReplay)
				b.wantTaken(t, "of an older window, above", b.data(gen, 90), home(), api.TkDelivered, 0)
				b.wantDrop(t, "of an older window, out of reach", b.data(gen, 26), home(), api.DropReplay)
				b.wantTaken(t, "of an older window, in reach", b.data(gen, 27), home(), api.TkDelivered, 0)
				b.wantDrop(t, "of an older window, taken", b.data(gen, 27), home(), api.DropReplay)
			}
		}
	}
}
