package world_test

import (
	"fmt"
	"slices"
	"testing"

	"culvert/api"
)

// both is a world with its plain form beside it. What is handed in lies in the midst of longer lists; what is handed out is written over.
type both struct {
	*trial
	p    *plain
	out  ledger
	told [][]api.Event
	met  tally
}

func newBoth(t *testing.T, sectors int) *both {
	t.Helper()
	return &both{trial: begin(t, sectors), p: newPlain(sectors), met: tally{}}
}

// ledger knows lists that were handed out: each is written over at once, its spare room too, by a thing of its own, which nothing may change from then on.
type ledger struct {
	count  int
	intact []func() bool
}

func write[T any](l *ledger, list []T, mark func(n int) T, is func(a T, n int) bool) {
	if cap(list) == 0 {
		return
	}
	l.count++
	all, number := list[:cap(list)], l.count
	for i := range all {
		all[i] = mark(number)
	}
	l.intact = append(l.intact, func() bool { return !slices.ContainsFunc(all, func(x T) bool { return !is(x, number) }) })
}

// check asks whether all is still as it was written; elder things are forgotten.
func (l *ledger) check() bool {
	ok := !slices.ContainsFunc(l.intact, func(is func() bool) bool { return !is() })
	l.intact = slices.Clone(l.intact[len(l.intact)/2:])
	return ok
}

func (l *ledger) bytes(b []byte) {
	write(l, b, func(n int) byte { return byte(n) }, func(x byte, n int) bool { return x == byte(n) })
}

func (l *ledger) flights(all []api.Flight) {
	for _, f := range all {
		l.bytes(f.Data)
	}
	write(l, all, func(n int) api.Flight { return api.Flight{No: -n} }, func(x api.Flight, n int) bool { return sameFlight(x, api.Flight{No: -n}) })
}

func (l *ledger) events(all []api.Event) {
	for _, e := range all {
		l.bytes(e.Data)
		l.bytes(e.Peer.Key)
		l.bytes(e.Lane.Key)
		l.bytes(e.Flight.Data)
		write(l, e.Peer.Prefixes, func(n int) api.Prefix { return api.Prefix{Bits: -n} }, func(x api.Prefix, n int) bool { return x == api.Prefix{Bits: -n} })
	}
	write(l, all, func(n int) api.Event { return api.Event{K: -n} }, func(x api.Event, n int) bool { return sameEvent(x, api.Event{K: -n}) })
}

func (l *ledger) told(a told) {
	for i := range a.looks {
		l.events(a.looks[i])
	}
	l.flights(a.under)
}

// copied is an event with lists of its own.
func copied(e api.Event) api.Event {
	e.Data, e.Peer.Key, e.Peer.Prefixes = slices.Clone(e.Data), slices.Clone(e.Peer.Key), slices.Clone(e.Peer.Prefixes)
	e.Lane.Key, e.Flight.Data = slices.Clone(e.Lane.Key), slices.Clone(e.Flight.Data)
	return e
}

func copiedEvents(l []api.Event) []api.Event {
	var out []api.Event
	for _, e := range l {
		out = append(out, copied(e))
	}
	return out
}

// roomy is a copy of a list in the midst of a longer one: what lies behind it is its spare room.
func roomy[T any](l []T, filling T) (list, all []T) {
	room := slices.Repeat([]T{filling}, 40)
	all = slices.Concat(room, l, room)
	return all[40 : 40+len(l)], all
}

// handed is a step that is handed in, with room around each of its lists.
type handed struct {
	op      api.Op
	bytes   [][]byte
	changes []api.Change
	faults  []api.Fault
	keep    []bool
}

func handedOf(op api.Op) handed {
	h := handed{op: op, bytes: make([][]byte, 1)}
	h.op.Data, h.bytes[0] = roomy(op.Data, 0x77)
	h.op.Changes, h.changes = roomy(op.Changes, api.Change{Kind: 77})
	h.op.Faults, h.faults = roomy(op.Faults, api.Fault{At: 77})
	h.op.Keep, h.keep = roomy(op.Keep, true)
	for i, c := range op.Changes {
		key, all := roomy(c.Key, 0x77)
		h.op.Changes[i].Key = key
		h.bytes = append(h.bytes, all)
	}
	return h
}

func sameChange(a, b api.Change) bool {
	return a.Kind == b.Kind && a.Link == b.Link && a.Side == b.Side && a.Prefix == b.Prefix && slices.Equal(a.Key, b.Key)
}

func (h handed) same(o handed) bool {
	return slices.EqualFunc(h.bytes, o.bytes, slices.Equal) && slices.EqualFunc(h.changes, o.changes, sameChange) && slices.Equal(h.faults, o.faults) && slices.Equal(h.keep, o.keep)
}

// writeOver is what the owner of what was handed in does with it behind the step.
func (h handed) writeOver() {
	for _, b := range h.bytes {
		for i := range b {
			b[i] ^= 0xEE
		}
	}
	for i := range h.changes {
		h.changes[i] = api.Change{Kind: -1, Link: -1, Key: []byte{1}}
	}
	for i := range h.faults {
		h.faults[i] = api.Fault{At: 1, Kind: 1}
	}
	for i := range h.keep {
		h.keep[i] = !h.keep[i]
	}
}

// do does a step at both, and holds them against one another: what happened, and all that can be asked.
func (x *both) do(op api.Op) []api.Event {
	h := handedOf(op)
	x.past = append(x.past, op)
	got := x.w.Step(h.op)
	if !h.same(handedOf(op)) {
		x.t.Helper()
		x.fail("what was handed in, or what lies around it, has changed")
	}
	h.writeOver()
	own := copiedEvents(got)
	x.out.events(got)
	if want := x.p.step(op); !sameEvents(own, want) {
		x.t.Helper()
		x.fail("%s: %s, want %s", brief(op), linesOf(own), linesOf(want))
	}
	x.told = append(x.told, own)
	x.met.see(op, own)
	x.ask()
	return own
}

// ask asks all that can be asked.
func (x *both) ask() {
	got, want := tellOf(x.w), x.p.tell()
	if d := got.differs(want); d != "" {
		x.t.Helper()
		x.fail("%s differs", d)
	}
	if len(x.past)%7 == 0 { // the bytes of two devices are many
		x.out.bytes(got.durable[0])
		x.out.bytes(got.durable[1])
	}
	x.out.told(got)
	if len(x.past)%10 == 0 && !x.out.check() {
		x.t.Helper()
		x.fail("what was handed out has changed")
	}
}

// tally counts what steps have come to.
type tally map[string]int

func (n tally) see(op api.Op, l []api.Event) {
	for _, e := range l {
		switch e.Kind {
		case api.EvRefused, api.EvDropped:
			n[fmt.Sprintf("step %d event %d code %d", op.Kind, e.Kind, int(e.Code))]++
		case api.EvSent:
			n[fmt.Sprintf("step %d event %d lost %v", op.Kind, e.Kind, e.K == 0)]++
		default:
			n[fmt.Sprintf("step %d event %d", op.Kind, e.Kind)]++
		}
	}
}

func (n tally) want(t *testing.T, least int, all ...string) {
	t.Helper()
	for _, what := range all {
		if n[what] < least {
			t.Errorf("%s: only %d times", what, n[what])
		}
	}
}
