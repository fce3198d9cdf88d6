package session_test

import (
	"testing"

	"culvert/api"
)

// wantInit: an init of this generation and stamp, with this lane committed.
func (b *both) wantInit(t *testing.T, what string, clock api.Stamp, gen int, s api.Stamp) {
	t.Helper()
	was := b.s.Lane()
	got := b.do(t, rekey(clock))
	if got.err != api.OK || len(got.commits) != 1 || !sameLane(got.commits[0], with(was, func(l *api.Lane) { l.Next = gen })) {
		t.Fatalf("%s: %+v", what, got)
	}
	b.wantPacket(t, what, got.packet, headOf(pkInit, b.p.link, gen, 0), stampBytes(s))
	v := b.s.View()
	if v.Last != s || v.Openings[0] != (api.Opening{Gen: gen, Stamp: s}) {
		t.Fatalf("%s: %+v", what, v)
	}
}

// P19.3: the clock below Last, at it, at its next one, above it; and at first, when Last is the zero stamp.
func TestRekeyClock(t *testing.T) {
	for side := range 2 {
		b := newBoth(t, newLane(side), params(4, 64))
		for i, x := range []struct{ clock, stamp api.Stamp }{
			{api.Stamp{}, stampOf(0, 1)},
			{api.Stamp{}, stampOf(0, 2)},
			{stampOf(0, 3), stampOf(0, 3)},
			{stampOf(5, 0), stampOf(5, 0)},
			{stampOf(5, 0), stampOf(5, 1)},
			{stampOf(5, 2), stampOf(5, 2)},
			{stampOf(5, 1), stampOf(5, 3)},
			{stampOf(4, maxNano), stampOf(5, 4)},
			{stampOf(5, maxNano), stampOf(5, maxNano)},
			{stampOf(5, maxNano), stampOf(6, 0)},
			{stampOf(0, 0), stampOf(6, 1)},
			{stampOf(7, 0), stampOf(7, 0)},
			{stampOf(maxSec, maxNano-2), stampOf(maxSec, maxNano-2)},
			{stampOf(0, 7), stampOf(maxSec, maxNano-1)},
			{stampOf(maxSec, maxNano-1), greatest()},
		} {
			b.wantInit(t, "clock", x.clock, 2+i, x.stamp)
		}
		for _, clock := range []api.Stamp{{}, stampOf(5, 0), stampOf(maxSec, maxNano-1), greatest()} {
			b.wantErr(t, "Last is the greatest stamp", rekey(clock), api.ErrClock, 0)
			b.wantErr(t, "Last is the greatest stamp, and refused", rekey(clock).but(api.ErrIO), api.ErrClock, 0)
		}
		for _, clock := range noStamps() {
			b.wantErr(t, "no stamp ahead of no clock", rekey(clock), api.ErrStamp, 0)
		}
	}
	b := newBoth(t, newLane(0), params(4, 64))
	b.wantInit(t, "the greatest stamp at first", greatest(), 2, greatest())
	b.wantErr(t, "Last is the greatest stamp", rekey(greatest()), api.ErrClock, 0)
	b.wantTaken(t, "its reply", b.reply(2, 0, greatest()), home(), api.TkOpened, 1)
	b.wantErr(t, "Last stays, though its opening is no more", rekey(greatest()), api.ErrClock, 0)
}

// P19.3: Last is of this session alone: neither Seen nor an init that came is looked at.
func TestRekeyLast(t *testing.T) {
	b := newBoth(t, someLane(), params(4, 64)) // Seen is 5.7
	b.wantInit(t, "below Seen", stampOf(1, 0), 6, stampOf(1, 0))
	b.wantTaken(t, "an init", b.init(8, 0, stampOf(9, 0)), home(), api.TkAnswered, 1)
	b.wantInit(t, "below Seen", stampOf(2, 0), 9, stampOf(2, 0))
	b.wantErr(t, "no stamp", rekey(stampOf(3, -1)), api.ErrStamp, 0)
	b.wantErr(t, "refused", rekey(stampOf(3, 0)).but(api.ErrIO), api.ErrIO, 1)
	b.wantInit(t, "Last is the one ahead of the refused", stampOf(0, 0), 10, stampOf(2, 1))
}

// P19.3: the clocks that are no stamps, at first too, and whatever else there is.
func TestRekeyNoStamp(t *testing.T) {
	lanes := []api.Lane{newLane(0), someLane(), with(someLane(), func(l *api.Lane) { l.Cur = maxGen }), with(someLane(), func(l *api.Lane) { l.Next = maxGen })}
	for _, l := range lanes {
		b := newBoth(t, l, params(4, 64))
		for _, clock := range noStamps() {
			b.wantErr(t, "no stamp", rekey(clock), api.ErrStamp, 0)
			b.wantErr(t, "no stamp, and refused", rekey(clock).but(api.ErrIO), api.ErrStamp, 0)
		}
	}
}

// P19.3: generations: one above the greater one of Cur and Next, up to MaxGen; ErrGen behind that, ahead of ErrClock.
func TestRekeyGenerations(t *testing.T) {
	for _, x := range []struct{ cur, next, gen int }{
		{1, 0, 2}, {1, 1, 2}, {1, 2, 3}, {2, 1, 3}, {5, 3, 6}, {3, 5, 6}, {5, 5, 6}, {maxGen - 1, 0, maxGen}, {1, maxGen - 1, maxGen}, {maxGen - 1, maxGen - 1, maxGen},
	} {
		b := newBoth(t, with(someLane(), func(l *api.Lane) { l.Cur, l.Next = x.cur, x.next }), params(4, 64))
		b.wantInit(t, "generation", stampOf(5, 0), x.gen, stampOf(5, 0))
		if x.gen < maxGen {
			b.wantInit(t, "the next one", stampOf(5, 0), x.gen+1, stampOf(5, 1))
			continue
		}
		b.wantErr(t, "no generation left", rekey(stampOf(6, 0)), api.ErrGen, 0)
		b.wantErr(t, "no generation left, and refused", rekey(stampOf(6, 0)).but(api.ErrIO), api.ErrGen, 0)
	}
	b := newBoth(t, with(newLane(1), func(l *api.Lane) { l.Cur = maxGen - 1 }), params(4, 64))
	b.wantInit(t, "the last generation with the greatest stamp", greatest(), maxGen, greatest())
	b.wantErr(t, "no generation left, and no stamp left", rekey(stampOf(6, 0)), api.ErrGen, 0)
	b.wantErr(t, "no stamp, and neither left", rekey(stampOf(6, -1)), api.ErrStamp, 0)
	b.wantTaken(t, "its reply", b.reply(maxGen, 0, greatest()), home(), api.TkOpened, 1)
	b.wantErr(t, "Cur is MaxGen", rekey(stampOf(6, 0)), api.ErrGen, 0)
	for _, cur := range []int{maxGen, 1} {
		b := newBoth(t, with(newLane(1), func(l *api.Lane) { l.Cur, l.Next = cur, maxGen+1-cur }), params(4, 64))
		b.wantErr(t, "none from the beginning", rekey(stampOf(6, 0)), api.ErrGen, 0)
	}
}

// P19.3: more than MaxOpen openings: the oldest goes, and its reply is dropped; the others' are not.
func TestRekeyManyOpenings(t *testing.T) {
	for many := range 12 {
		for answered := 2; answered <= many+1; answered++ {
			b := newBoth(t, newLane(0), params(4, 64))
			for i := range many {
				b.wantInit(t, "init", stampOf(10+i, 0), 2+i, stampOf(10+i, 0))
				v := b.s.View()
				if len(v.Openings) != min(i+1, 4) {
					t.Fatalf("%d openings behind %d inits", len(v.Openings), i+1)
				}
				for k, o := range v.Openings {
					if o != (api.Opening{Gen: 2 + i - k, Stamp: stampOf(10+i-k, 0)}) {
						t.Fatalf("the opening %d behind %d inits is %v", k, i+1, o)
					}
				}
			}
			r := b.reply(answered, 0, stampOf(8+answered, 0))
			if answered <= many+1-4 {
				b.wantDrop(t, "an opening that is no more", r, home(), api.DropGen)
				continue
			}
			b.wantTaken(t, "an opening", r, home(), api.TkOpened, 1)
			if v := b.s.View(); len(v.Openings) != many+1-answered {
				t.Fatalf("behind the reply to %d of %d the openings are %v", answered, many, v.Openings)
			}
		}
	}
}

// P19.3: a commit that refuses: its error, no packet, no opening, and the same call again is as if the first had never been.
func TestRekeyRefused(t *testing.T) {
	b := newBoth(t, someLane(), params(4, 64))
	for i := range 7 {
		for _, e := range []api.Errno{api.ErrIO, api.ErrPower, api.ErrGen, api.ErrStamp, -1, 1, 1 << 40} {
			b.wantErr(t, "refused", rekey(stampOf(20+i, 0)).but(e), e, 1)
			b.wantErr(t, "refused at the greatest stamp", rekey(greatest()).but(e), e, 1)
		}
		b.wantDrop(t, "a reply to what was refused", b.reply(6+i, 0, stampOf(20+i, 0)), home(), api.DropGen)
		b.wantInit(t, "again", stampOf(20+i, 0), 6+i, stampOf(20+i, 0))
	}
}

// P19.3: an init is of the next generation; data goes on with Cur and its counters.
func TestRekeyLeavesTheRest(t *testing.T) {
	b := newBoth(t, someLane(), params(2, 64))
	b.wantTaken(t, "data", b.data(3, 44), home(), api.TkDelivered, 1)
	for i := range 5 {
		got := b.do(t, send(fromTo(1, 2, "x")))
		b.wantPacket(t, "data", got.packet, headOf(pkData, 7, 3, 100+uint64(i)), fromTo(1, 2, "x"))
		b.wantInit(t, "init", stampOf(i, 0), 6+i, above(stampOf(i, 0), map[int]int64{0: 1}[i]))
		v := b.s.View()
		if v.At != 101+uint64(i) || v.Floor != 40 || v.Top != 44 || !v.HasTop || len(v.Olds) != 0 {
			t.Fatalf("%+v", v)
		}
	}
}
