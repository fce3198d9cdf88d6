package world_test

import (
	"bytes"
	"fmt"
	"slices"
	"strings"
	"testing"

	"culvert/api"
	"culvert/world"
)

func samePeer(a, b api.Peer) bool {
	return a.Link == b.Link && bytes.Equal(a.Key, b.Key) && slices.Equal(a.Prefixes, b.Prefixes)
}

func sameLane(a, b api.Lane) bool {
	return bytes.Equal(a.Key, b.Key) && a.Side == b.Side && a.Cur == b.Cur && a.Next == b.Next && a.SendCur == b.SendCur && a.Ceil == b.Ceil && a.Seen == b.Seen
}

func sameFlight(a, b api.Flight) bool {
	return a.No == b.No && a.To == b.To && bytes.Equal(a.Data, b.Data)
}

// sameEvent: nil and the empty list are the same.
func sameEvent(a, b api.Event) bool {
	return a.Kind == b.Kind && a.A == b.A && a.K == b.K && a.M == b.M && a.Link == b.Link && a.Code == b.Code &&
		bytes.Equal(a.Data, b.Data) && samePeer(a.Peer, b.Peer) && sameLane(a.Lane, b.Lane) && sameFlight(a.Flight, b.Flight)
}

func sameEvents(a, b []api.Event) bool { return slices.EqualFunc(a, b, sameEvent) }

// linesOf are events in one line, by the tests' own means.
func linesOf(l []api.Event) string {
	var out []string
	for _, e := range l {
		out = append(out, plainShow(e))
	}
	return strings.Join(out, "; ")
}

// short is a text that a message can bear.
func short(text string) string {
	if len(text) > 2000 {
		return text[:2000] + " .."
	}
	return text
}

// brief is a step in one line.
func brief(op api.Op) string {
	names := []string{"?", "commit", "send", "rekey", "tick", "give", "drop", "copy", "flip", "junk", "arm", "crash", "boot", "look", "run"}
	name := fmt.Sprint("kind", op.Kind)
	if op.Kind > 0 && op.Kind < len(names) {
		name = names[op.Kind]
	}
	out := fmt.Sprintf("%s A %d K %d", name, op.A, op.K)
	switch op.Kind {
	case api.OpFlip:
		out += fmt.Sprintf(" At %d X %d", op.At, op.X)
	case api.OpRekey:
		out += fmt.Sprintf(" Link %d", op.Link)
	case api.OpTick:
		out += fmt.Sprint(" ", op.Stamp)
	case api.OpBoot:
		out += fmt.Sprint(" ", op.Params)
	case api.OpArm:
		out += fmt.Sprint(" ", op.Faults)
	case api.OpCrash:
		out += fmt.Sprint(" ", op.Keep[:min(len(op.Keep), 12)])
	case api.OpSend, api.OpJunk:
		out += fmt.Sprintf(" %x of %d", op.Data[:min(len(op.Data), 30)], len(op.Data))
	case api.OpCommit:
		for _, c := range op.Changes[:min(len(op.Changes), 6)] {
			out += fmt.Sprintf(" {%d %d key %x side %d %v}", c.Kind, c.Link, c.Key[:min(len(c.Key), 1)], c.Side, c.Prefix)
		}
	}
	return out
}

func briefs(l []api.Op) string {
	var out []string
	for _, op := range l {
		out = append(out, brief(op))
	}
	return strings.Join(out, "; ")
}

// trial is a world, what is done with it, and the tests' own memory of that.
type trial struct {
	t    *testing.T
	w    *world.World
	past []api.Op
}

func begin(t *testing.T, sectors int) *trial {
	t.Helper()
	w := world.New(sectors)
	if w == nil {
		t.Fatalf("New(%d) = nil", sectors)
	}
	return &trial{t: t, w: w}
}

// laid is a world in which a tunnel is laid.
func laid(t *testing.T, sectors int) *trial {
	t.Helper()
	x := begin(t, sectors)
	x.all(tunnel()...)
	return x
}

func (x *trial) fail(format string, args ...any) {
	x.t.Helper()
	x.t.Fatalf("%s; the last of %d steps: %s", short(fmt.Sprintf(format, args...)), len(x.past), briefs(x.past[max(0, len(x.past)-25):]))
}

// step does a step; no event has more than its kind names.
func (x *trial) step(op api.Op) []api.Event {
	x.past = append(x.past, op)
	out := x.w.Step(op)
	for _, e := range out {
		if !sameEvent(e, bare(e)) || e.Kind < 1 || e.Kind > 14 {
			x.t.Helper()
			x.fail("an event with fields that its kind does not have: %+v", e)
		}
	}
	return out
}

// does does a step that must have these lines.
func (x *trial) does(op api.Op, want string) {
	if got := linesOf(x.step(op)); got != want {
		x.t.Helper()
		x.fail("%s: %q, want %q", brief(op), short(got), want)
	}
}

// says is does of a step as a script has it.
func (x *trial) says(line, want string) {
	x.t.Helper()
	x.does(steps(x.t, line)[0], want)
}

// all does steps none of which may be refused.
func (x *trial) all(lines ...string) {
	x.t.Helper()
	for _, op := range steps(x.t, lines...) {
		for _, e := range x.step(op) {
			if e.Kind == api.EvRefused {
				x.fail("%s: %s", brief(op), plainShow(e))
			}
		}
	}
}

// flight is a packet under way.
func (x *trial) flight(no int) api.Flight {
	l := x.w.Under()
	at := slices.IndexFunc(l, func(f api.Flight) bool { return f.No == no })
	if at < 0 {
		x.t.Helper()
		x.fail("%d is not under way", no)
	}
	return l[at]
}

// numbers are those of all that is under way.
func (x *trial) numbers() []int {
	var out []int
	for _, f := range x.w.Under() {
		out = append(out, f.No)
	}
	return out
}

func (x *trial) wantNumbers(want ...int) {
	if got := x.numbers(); !slices.Equal(got, want) {
		x.t.Helper()
		x.fail("under way are %v, want %v", got, want)
	}
}

// told is all that can be asked of a world without a change.
type told struct {
	durable [2][]byte
	under   []api.Flight
	looks   [2][]api.Event
}

func tellOf(w *world.World) (a told) {
	for i := range a.durable {
		a.durable[i] = w.Durable(i)
		a.looks[i] = w.Step(api.Op{Kind: api.OpLook, A: i})
	}
	a.under = w.Under()
	return a
}

// tell is the same of the plain form.
func (p *plain) tell() (a told) {
	for i := range a.durable {
		a.durable[i], a.looks[i] = p.devices[i].Durable(), p.look(i)
	}
	for _, f := range p.under {
		f.Data = bytes.Clone(f.Data)
		a.under = append(a.under, f)
	}
	return a
}

// differs is what differs; the empty text, if nothing does.
func (a told) differs(b told) string {
	for i := range a.durable {
		if !bytes.Equal(a.durable[i], b.durable[i]) {
			return fmt.Sprintf("the lasting bytes of node %d", i)
		}
		if !sameEvents(a.looks[i], b.looks[i]) {
			return fmt.Sprintf("the look at node %d: %s, and %s", i, short(linesOf(a.looks[i])), short(linesOf(b.looks[i])))
		}
	}
	if !slices.EqualFunc(a.under, b.under, sameFlight) {
		return fmt.Sprintf("what is under way: %d packets, and %d", len(a.under), len(b.under))
	}
	return ""
}

// wantRefused: the step is refused, just so, and changes nothing.
func (x *trial) wantRefused(op api.Op, a int, e api.Errno) {
	x.t.Helper()
	before := tellOf(x.w)
	x.does(op, fmt.Sprintf("refused %d %d", a, int(e)))
	if d := before.differs(tellOf(x.w)); d != "" {
		x.fail("%s has changed something: %s", brief(op), d)
	}
}

// lines does steps, a semicolon between each two; none may be refused.
func (x *trial) lines(text string) {
	x.t.Helper()
	x.all(strings.Split(text, "; ")...)
}

// given is the greatest number that a packet has got so far: a copy of the whole trial is asked.
func (x *trial) given() int { return x.plainBehind().given }

// plainBehind is the plain form behind all that was done.
func (x *trial) plainBehind() *plain {
	p := newPlain(len(x.w.Durable(0)) / 512)
	for _, op := range x.past {
		p.step(op)
	}
	return p
}

// doneAt is how many operations a node's device has counted, as the plain form says.
func (x *trial) doneAt(a int) string { return fmt.Sprint(x.plainBehind().devices[a].Done()) }
