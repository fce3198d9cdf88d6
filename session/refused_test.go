package session_test

import (
	"testing"

	"culvert/api"
)

// refusals are errors that a commit may answer: those of the device, those that a session itself knows, and any numbers.
func refusals() []api.Errno {
	return []api.Errno{api.ErrIO, api.ErrPower, api.ErrFull, api.ErrSeqs, api.ErrEnded, api.ErrDevice, api.ErrArg, api.ErrPayload, api.ErrCounter, api.ErrGen, api.ErrClock, api.DropForm, api.DropSource, -1, 1, 1 << 40}
}

// named is a call with what it is called in what a test tells.
type named struct {
	what string
	call call
}

// committing are calls of a lively session that commit, one of each place where it is done.
func committing(b *both) []named {
	return []named{
		{"Send", send(fromTo(1, 2, "x"))},
		{"Rekey", rekey(stampOf(9, 0))},
		{"an init up to Next", take(b.init(6, 3, stampOf(3, 0)), home())},
		{"an init above Next", take(b.init(9, 3, stampOf(3, 0)), home())},
		{"a reply", take(b.reply(6, 3, stampOf(5, 1)), home())},
		{"data at Ceil", take(b.data(4, 104), home())},
		{"data of the last counter", take(b.data(4, maxCounter), home())},
	}
}

// sentUp has sent all that was reserved, so that the next Send commits.
func sentUp(t *testing.T, side int) *both {
	t.Helper()
	b := lively(t, side)
	for b.p.at < b.p.lane.SendCur {
		b.do(t, send(fromTo(1, 2, "x")))
	}
	return b
}

// P19.2 to P19.4: a commit that refuses, at each place where one is called: its error, all else zero, nothing has changed; and the same call again is as if the first had never been.
func TestRefusedAtEachPlace(t *testing.T) {
	for side := range 2 {
		for _, one := range committing(lively(t, side)) {
			b, fresh := sentUp(t, side), sentUp(t, side)
			for _, e := range refusals() {
				b.wantErr(t, one.what, one.call.but(e), e, 1)
			}
			got, want := b.do(t, one.call), fresh.do(t, one.call)
			if got.err != api.OK || len(got.commits) != 1 || !same(got, want) {
				t.Fatalf("%s: %+v, and without a refusal ahead %+v", one.what, got, want)
			}
			wantView(t, one.what, b.s, fresh.s.View())
			wantLane(t, one.what, b.s, fresh.s.Lane())
			for _, other := range committing(b) {
				if got, want := b.do(t, other.call), fresh.do(t, other.call); !same(got, want) {
					t.Fatalf("%s, then %s: %+v, and without a refusal ahead %+v", one.what, other.what, got, want)
				}
			}
		}
	}
}

// P19.2 to P19.4: a refusal of one call is none of another: each other call behind it is as if it had never been.
func TestRefusedThenAnother(t *testing.T) {
	all := committing(lively(t, 0))
	for _, one := range all {
		for _, other := range all {
			b, fresh := sentUp(t, 0), sentUp(t, 0)
			b.wantErr(t, one.what, one.call.but(api.ErrIO), api.ErrIO, 1)
			if got, want := b.do(t, other.call), fresh.do(t, other.call); !same(got, want) {
				t.Fatalf("%s is refused, then %s: %+v, and without that %+v", one.what, other.what, got, want)
			}
		}
	}
}

// P19.2 to P19.4: commit is called only where it is said: a commit that would refuse is not asked by calls that need none.
func TestNotCommitted(t *testing.T) {
	for side := range 2 {
		b := lively(t, side)
		for _, x := range []struct {
			what string
			call call
			kind int
			err  api.Errno
		}{
			{"Send, reserved", send(fromTo(1, 2, "x")), 0, api.OK},
			{"no payload", send(nil), 0, api.ErrPayload},
			{"no stamp", rekey(stampOf(0, -1)), 0, api.ErrStamp},
			{"data below Ceil", take(b.data(4, 103), home()), api.TkDelivered, api.OK},
			{"data of an older generation, below its greatest", take(b.data(3, 119), home()), api.TkDelivered, api.OK},
			{"data of an older generation, above Ceil", take(b.data(3, 1000), home()), api.TkDelivered, api.OK},
			{"dropped: form", take(nil, home()), api.TkDropped, api.OK},
			{"dropped: generation", take(b.init(4, 0, stampOf(9, 0)), home()), api.TkDropped, api.OK},
			{"dropped: replay", take(b.data(4, 100), home()), api.TkDropped, api.OK},
			{"dropped: stamp", take(b.init(9, 0, stampOf(1, 0)), home()), api.TkDropped, api.OK},
			{"dropped: source", take(b.data(4, 104), noWay()), api.TkDropped, api.OK},
		} {
			got := b.do(t, x.call.but(api.ErrIO))
			if got.err != x.err || got.taken.Kind != x.kind || len(got.commits) != 0 {
				t.Fatalf("%s: %+v", x.what, got)
			}
		}
	}
}
