package session_test

import (
	"bytes"
	"fmt"
	"slices"
	"testing"

	"culvert/api"
	"culvert/session"
)

// key is one of many.
func key(n int) []byte {
	b := make([]byte, 32)
	for i := range b {
		b[i] = byte(n + 7*i + n/256)
	}
	return b
}

// fromTo is a payload of the family 4.
func fromTo(src, dst byte, body string) []byte {
	return append([]byte{4, 10, 0, 0, src, 10, 1, 0, dst}, body...)
}

// fromTo6 is one of the family 6.
func fromTo6(src, dst byte, body string) []byte {
	b := make([]byte, 33)
	b[0], b[1], b[16], b[17], b[32] = 6, 0xFD, src, 0xFD, dst
	return append(b, body...)
}

const link = 7

// home finds the link 7 for 10.0.0.0/16 and for all of the family 6, but not for all within.
func home() way {
	return noWay().to("10.0.0.0/16", link).to("10.0.0.128/25", 9).to("0.0.0.0/0", 8).to("::/0", link).to("fd00::80/121", 9)
}

func newLane(side int) api.Lane { return api.Lane{Key: key(1), Side: side, Cur: 1} }

func params(block, width int) api.Params { return api.Params{Block: block, Width: width} }

// ledger knows lists that were handed out: each is written over at once, its spare room too, by a thing of its own, which nothing may change from then on.
type ledger struct {
	count  int
	intact []func() bool
}

func write[T comparable](l *ledger, list []T, mark func(n int) T) {
	l.count++
	all, x := list[:cap(list)], mark(l.count)
	for i := range all {
		all[i] = x
	}
	l.intact = append(l.intact, func() bool { return !slices.ContainsFunc(all, func(y T) bool { return y != x }) })
	if len(l.intact) > 60 {
		l.intact = slices.Clone(l.intact[30:])
	}
}

func (l *ledger) bytes(b []byte) { write(l, b, func(n int) byte { return byte(n) }) }

func (l *ledger) view(v api.View) {
	write(l, v.Olds, func(n int) int { return -n })
	write(l, v.Openings, func(n int) api.Opening { return api.Opening{Gen: -n} })
}

func (l *ledger) isIntact() bool {
	return !slices.ContainsFunc(l.intact, func(ok func() bool) bool { return !ok() })
}

// roomy is a copy of a list in the midst of a longer one: what lies behind it is its spare room.
func roomy(b []byte) (list, all []byte) {
	room := bytes.Repeat([]byte{0x77}, 40)
	all = slices.Concat(room, b, room)
	return all[40 : 40+len(b)], all
}

// call is a call of a session, and what commit answers if it is called.
type call struct {
	kind    string
	data    []byte // the payload or the packet
	clock   api.Stamp
	way     way
	refusal api.Errno
}

func send(payload []byte) call      { return call{kind: "Send", data: payload} }
func rekey(clock api.Stamp) call    { return call{kind: "Rekey", clock: clock} }
func take(b []byte, w way) call     { return call{kind: "Take", data: b, way: w} }
func (c call) but(e api.Errno) call { c.refusal = e; return c }

func (c call) String() string {
	if c.kind == "Rekey" {
		return fmt.Sprintf("Rekey(%v) but %d", c.clock, c.refusal)
	}
	h, ok := readHead(c.data)
	if c.kind == "Take" && ok {
		return fmt.Sprintf("Take(%+v, %d bytes) but %d", h, len(c.data), c.refusal)
	}
	return fmt.Sprintf("%s(%x) but %d", c.kind, c.data[:min(len(c.data), 50)], c.refusal)
}

// plain is what the call answers of the plain form.
func (c call) plain(p *plain) answer {
	switch c.kind {
	case "Send":
		return p.send(c.data, c.refusal)
	case "Rekey":
		return p.rekey(c.clock, c.refusal)
	}
	return p.take(c.data, c.way, c.refusal)
}

// run does the call. What is handed in is written over behind it, what is handed out at once.
func (c call) run(t *testing.T, s *session.Session, out *ledger) answer {
	var a answer
	data, all := roomy(c.data)
	was := slices.Clone(all)
	commit := func(l api.Lane) api.Errno {
		a.commits = append(a.commits, cloned(l))
		out.bytes(l.Key)
		return c.refusal
	}
	switch c.kind {
	case "Send":
		b, e := s.Send(data, commit)
		a.packet, a.err = slices.Clone(b), e
		out.bytes(b)
	case "Rekey":
		b, e := s.Rekey(c.clock, commit)
		a.packet, a.err = slices.Clone(b), e
		out.bytes(b)
	case "Take":
		x, e := s.Take(data, c.way.table, commit)
		a.taken, a.err = x, e
		a.taken.Data = slices.Clone(x.Data)
		out.bytes(x.Data)
	}
	if !bytes.Equal(all, was) {
		t.Helper()
		t.Fatalf("%v: what was handed in, or what lies around it, has become %x", c, all)
	}
	for i := range all {
		all[i] = 0xEE
	}
	return a
}

// both is a session with its plain form beside it.
type both struct {
	s     *session.Session
	p     *plain
	out   ledger
	calls []call
}

func newBoth(t *testing.T, l api.Lane, p api.Params) *both {
	t.Helper()
	return newBothOf(t, link, l, p)
}

func newBothOf(t *testing.T, link int, l api.Lane, p api.Params) *both {
	t.Helper()
	ownKey, own := roomy(l.Key)
	peerKey, peer := roomy(l.Key)
	was, handed := slices.Clone(own), l
	handed.Key = ownKey
	s := session.New(api.Peer{Link: link, Key: peerKey}, handed, p)
	if s == nil {
		t.Fatalf("New(%d, %+v, %+v) = nil", link, l, p)
	}
	if !bytes.Equal(own, was) || !bytes.Equal(peer, was) {
		t.Fatalf("New: what was handed in, or what lies around it, has become %x and %x", own, peer)
	}
	for i := range was {
		own[i], peer[i] = 0xEE, 0xDD
	}
	b := &both{s: s, p: newPlain(link, l, p)}
	b.look(t)
	return b
}

func (b *both) fail(t *testing.T, what string, got, want any) {
	t.Helper()
	t.Fatalf("%s: %+v, want %+v; the session is plainly %+v; the last calls: %v", what, got, want, *b.p, b.calls[max(0, len(b.calls)-15):])
}

// do does a call, holds it against the plain form, and looks at all that can be told behind it.
func (b *both) do(t *testing.T, c call) answer {
	b.calls = append(b.calls, c)
	got, want := c.run(t, b.s, &b.out), c.plain(b.p)
	if !same(got, want) {
		t.Helper()
		b.fail(t, c.String(), got, want)
	}
	b.look(t)
	return got
}

// look asks all that can be asked, twice: they change nothing.
func (b *both) look(t *testing.T) {
	for range 2 {
		v, l := b.s.View(), b.s.Lane()
		if !sameView(v, b.p.view()) {
			t.Helper()
			b.fail(t, "View", v, b.p.view())
		}
		if !sameLane(l, b.p.lane) {
			t.Helper()
			b.fail(t, "Lane", l, b.p.lane)
		}
		b.out.view(v)
		b.out.bytes(l.Key)
	}
	if !b.out.isIntact() {
		t.Helper()
		b.fail(t, "what was handed out", "has changed", "only what was written into it")
	}
}

// from is a packet that the other side of b's key has sealed.
func (b *both) from(kind, gen int, counter uint64, text []byte) []byte {
	return sealed(b.p.lane.Key, 1-b.p.lane.Side, headOf(kind, b.p.link, gen, counter), text)
}

func (b *both) init(gen int, counter uint64, s api.Stamp) []byte {
	return b.from(pkInit, gen, counter, stampBytes(s))
}

func (b *both) reply(gen int, counter uint64, s api.Stamp) []byte {
	return b.from(pkReply, gen, counter, stampBytes(s))
}

func (b *both) data(gen int, counter uint64) []byte {
	return b.from(pkData, gen, counter, fromTo(1, 2, "x"))
}

// wantDrop: just this code, and nothing is committed or changed.
func (b *both) wantDrop(t *testing.T, what string, packet []byte, w way, code api.Errno) {
	t.Helper()
	view, lane := b.s.View(), b.s.Lane()
	got := b.do(t, take(packet, w))
	if !same(got, answer{taken: api.Taken{Kind: api.TkDropped, Code: code}}) {
		t.Fatalf("%s: %+v, want a packet dropped by %d", what, got, code)
	}
	if !sameView(b.s.View(), view) || !sameLane(b.s.Lane(), lane) {
		t.Fatalf("%s: what was dropped has changed something", what)
	}
}

// wantTaken: this kind, with so many lanes committed.
func (b *both) wantTaken(t *testing.T, what string, packet []byte, w way, kind, commits int) answer {
	t.Helper()
	got := b.do(t, take(packet, w))
	if got.err != api.OK || got.taken.Kind != kind || got.taken.Link != b.p.link || got.taken.Code != 0 || len(got.commits) != commits {
		t.Fatalf("%s: %+v, want the kind %d and %d commits", what, got, kind, commits)
	}
	return got
}

// wantErr: this error, nothing else, and so many calls of commit.
func (b *both) wantErr(t *testing.T, what string, c call, e api.Errno, commits int) {
	t.Helper()
	view, lane := b.s.View(), b.s.Lane()
	got := b.do(t, c)
	if len(got.commits) != commits || !same(got, answer{err: e, commits: got.commits}) {
		t.Fatalf("%s: %+v, want the error %d and %d commits", what, got, e, commits)
	}
	if !sameView(b.s.View(), view) || !sameLane(b.s.Lane(), lane) {
		t.Fatalf("%s: a call that was refused has changed something", what)
	}
}

// wantPacket: a packet's head, and the text that it opens to.
func (b *both) wantPacket(t *testing.T, what string, packet []byte, h api.Head, text []byte) {
	t.Helper()
	if got, ok := readHead(packet); !ok || got != h {
		t.Fatalf("%s: the head %+v, %v, want %+v", what, got, ok, h)
	}
	if got, ok := opened(b.p.lane.Key, b.p.lane.Side, packet); !ok || !bytes.Equal(got, text) {
		t.Fatalf("%s: the text %x, %v, want %x", what, got, ok, text)
	}
}

func wantView(t *testing.T, what string, s *session.Session, want api.View) {
	t.Helper()
	if got := s.View(); !sameView(got, want) {
		t.Fatalf("%s: View() = %+v, want %+v", what, got, want)
	}
}

func wantLane(t *testing.T, what string, s *session.Session, want api.Lane) {
	t.Helper()
	if got := s.Lane(); !sameLane(got, want) {
		t.Fatalf("%s: Lane() = %+v, want %+v", what, got, want)
	}
}
