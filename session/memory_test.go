package session_test

import (
	"bytes"
	"slices"
	"testing"

	"culvert/api"
	"culvert/session"
)

// Every call of both (want_test.go) hands in lists in the midst of longer ones, holds these against what they were, and writes over them behind the call; and it writes over all that is handed out, spare room too, and then asks that nothing else shows it. What follows says the same by itself.

// P19.6: New changes nothing that it is handed, not even the prefixes, and keeps nothing: one list as both keys, written over behind it.
func TestNewKeepsNothing(t *testing.T) {
	k, all := roomy(key(1))
	was := slices.Clone(all)
	prefixes := []api.Prefix{{Bits: 1}, {Bits: 2}, {Bits: 3}, {Bits: 4}}
	s := session.New(api.Peer{Link: link, Key: k, Prefixes: prefixes[1:3]}, api.Lane{Key: k, Cur: 1}, params(2, 64))
	if !bytes.Equal(all, was) || !slices.Equal(prefixes, []api.Prefix{{Bits: 1}, {Bits: 2}, {Bits: 3}, {Bits: 4}}) {
		t.Fatalf("what was handed in has become %x, %v", all, prefixes)
	}
	clear(all)
	clear(prefixes)
	wantLane(t, "the keys written over", s, newLane(0))
	b, e := s.Send(fromTo(1, 2, "x"), func(api.Lane) api.Errno { return api.OK })
	if text, ok := opened(key(1), 0, b); e != api.OK || !ok || !bytes.Equal(text, fromTo(1, 2, "x")) {
		t.Fatalf("the keys written over: %x, %d", b, e)
	}
	x, e := s.Take(sealed(key(1), 1, headOf(pkData, link, 1, 0), fromTo(1, 2, "y")), home().table, func(api.Lane) api.Errno { return api.OK })
	if e != api.OK || x.Kind != api.TkDelivered {
		t.Fatalf("the keys written over: %+v, %d", x, e)
	}
}

// handedOut does a call of a session, and answers the list that it hands out.
func handedOut(s *session.Session, c call, data []byte, commit func(api.Lane) api.Errno) []byte {
	var out []byte
	switch c.kind {
	case "Send":
		out, _ = s.Send(data, commit)
	case "Rekey":
		out, _ = s.Rekey(c.clock, commit)
	case "Take":
		x, _ := s.Take(data, c.way.table, commit)
		out = x.Data
	}
	return out
}

// P19.6: a payload and a packet are as they were behind the call, their spare room too, whether the call is refused or not; and the answer is not their memory.
func TestHandedIn(t *testing.T) {
	for side := range 2 {
		for _, one := range committing(lively(t, side)) {
			for _, e := range []api.Errno{api.ErrIO, api.OK} {
				list, all := roomy(one.call.data)
				was := slices.Clone(all)
				out := handedOut(sentUp(t, side).s, one.call, list, func(api.Lane) api.Errno { return e })
				if !bytes.Equal(all, was) {
					t.Fatalf("%s: what was handed in, or what lies around it, has become %x", one.what, all)
				}
				answer := slices.Clone(out)
				clear(all)
				if !bytes.Equal(out, answer) {
					t.Fatalf("%s: what was answered has become %x by a write into what was handed in", one.what, out)
				}
			}
		}
	}
}

// given is all lists that a session hands out in some calls: packets, payloads, and the keys of lanes; and the lists of a View.
type given struct {
	bytes    [][]byte
	olds     [][]int
	openings [][]api.Opening
}

func (g *given) look(s *session.Session) {
	v, l := s.View(), s.Lane()
	g.bytes, g.olds, g.openings = append(g.bytes, l.Key), append(g.olds, v.Olds), append(g.openings, v.Openings)
}

// talk is a history in which all kinds of lists are handed out, of two sessions.
func talk(t *testing.T) (given, *session.Session, *session.Session) {
	t.Helper()
	var g given
	commit := func(l api.Lane) api.Errno {
		g.bytes = append(g.bytes, l.Key)
		return api.OK
	}
	begin := func(side int) *session.Session {
		return session.New(peerOf(link, key(1)), newLane(side), params(1, 64))
	}
	a, b := begin(0), begin(1)
	give := func(s *session.Session, packet []byte) []byte {
		x, e := s.Take(packet, home().table, commit)
		if e != api.OK || x.Kind == api.TkDropped {
			t.Fatalf("%+v, %d", x, e)
		}
		g.bytes = append(g.bytes, packet, x.Data)
		return x.Data
	}
	for i := range 6 {
		for range 3 {
			p, _ := a.Send(fromTo(1, 2, "hello"), commit)
			give(b, p)
			q, _ := b.Send(fromTo(1, 2, "hello"), commit)
			give(a, q)
		}
		g.look(a)
		first, _ := a.Rekey(stampOf(i, 0), commit)
		g.look(a)
		second, _ := a.Rekey(stampOf(i, 0), commit)
		g.look(a)
		give(a, give(b, first)) // the second is an opening still
		g.look(a)
		give(a, give(b, second))
		g.look(b)
		for range 3 {
			p, _ := a.Rekey(stampOf(i, 0), commit)
			g.bytes = append(g.bytes, p)
			g.look(a)
		}
		p, _ := a.Rekey(stampOf(i, 0), commit)
		give(a, give(b, p))
		g.look(a)
		g.look(b)
	}
	return g, a, b
}

func wantApart[T comparable](t *testing.T, what string, lists [][]T, mark func(n int) T) {
	t.Helper()
	for n, l := range lists {
		l = l[:cap(l)]
		for i := range l {
			l[i] = mark(n)
		}
	}
	for n, l := range lists {
		if slices.ContainsFunc(l[:cap(l)], func(x T) bool { return x != mark(n) }) {
			t.Errorf("%s: the list %d shows what was written into another one", what, n)
		}
	}
}

// P19.6: no two lists that are handed out share anything, spare room too; and what is written into them the sessions do not see.
func TestHandedOut(t *testing.T) {
	g, a, b := talk(t)
	_, c, d := talk(t) // the same, with nothing written over
	slices.SortFunc(g.bytes, func(x, y []byte) int { return cap(y) - cap(x) })
	seen := map[*byte]int{} // a packet was handed out by one session and in to the other: it is listed twice
	g.bytes = slices.DeleteFunc(g.bytes, func(x []byte) bool {
		if cap(x) == 0 {
			return true
		}
		seen[&x[:1][0]]++
		return seen[&x[:1][0]] > 1
	})
	if len(g.bytes) < 200 || len(g.olds) < 40 {
		t.Fatalf("%d and %d lists", len(g.bytes), len(g.olds))
	}
	const marks = 251 // a byte can't tell all lists: their numbers are marked by two digits, one behind the other
	wantApart(t, "bytes", g.bytes, func(n int) byte { return byte(n % marks) })
	wantApart(t, "bytes", g.bytes, func(n int) byte { return byte(n / marks) })
	wantApart(t, "Olds", g.olds, func(n int) int { return -n })
	wantApart(t, "Openings", g.openings, func(n int) api.Opening { return api.Opening{Gen: -n} })
	for i, pair := range [][2]*session.Session{{a, c}, {b, d}} {
		wantView(t, "written over", pair[0], pair[1].View())
		wantLane(t, "written over", pair[0], pair[1].Lane())
		commit := func(api.Lane) api.Errno { return api.OK }
		p, e := pair[0].Send(fromTo(1, 2, "x"), commit)
		q, _ := pair[1].Send(fromTo(1, 2, "x"), commit)
		if e != api.OK || !bytes.Equal(p, q) {
			t.Fatalf("%d: %x, %d, want %x", i, p, e, q)
		}
	}
}

func grown[T any](l []T, x T) []T {
	for range 40 { // one by one, so that the spare room is used where there is some
		l = append(l, x)
	}
	return l
}

// P19.6: what is handed out is grown without a change of anything else.
func TestGrown(t *testing.T) {
	b := lively(t, 0)
	v, w, l, m := b.s.View(), b.s.View(), b.s.Lane(), b.s.Lane()
	grown(v.Olds, 99)
	grown(v.Openings, api.Opening{Gen: 99})
	grown(l.Key, 0x66)
	if !sameView(w, b.p.view()) || !sameLane(m, b.p.lane) {
		t.Errorf("%+v, %+v, want %+v, %+v", w, m, b.p.view(), b.p.lane)
	}
	b.look(t)
	for _, one := range committing(b) {
		var lists, want [][]byte
		fresh := sentUp(t, 0)
		out := handedOut(fresh.s, one.call, one.call.data, func(l api.Lane) api.Errno {
			grown(l.Key, 0x66)
			lists = append(lists, l.Key)
			return api.OK
		})
		lists = append(lists, out)
		for _, list := range lists {
			want = append(want, slices.Clone(list))
		}
		for _, list := range lists {
			grown(list, 0x66)
		}
		if len(lists) != 2 || !slices.EqualFunc(lists, want, bytes.Equal) {
			t.Errorf("%s: %x, want %x", one.what, lists, want)
		}
		one.call.plain(fresh.p)
		fresh.look(t)
	}
}

// P19.6, P19.5: Lane and View are of their moment: what is done behind them does not show in them.
func TestLaneAndViewStay(t *testing.T) {
	b := lively(t, 1)
	v, l := b.s.View(), b.s.Lane()
	wasView, wasLane := b.p.view(), cloned(b.p.lane)
	for _, c := range []call{send(fromTo(1, 2, "x")), take(b.data(4, 104), home()), rekey(stampOf(20, 0)), rekey(stampOf(20, 0)), take(b.reply(6, 0, stampOf(5, 1)), home()), take(b.init(12, 0, stampOf(9, 0)), home()), take(b.init(13, 0, stampOf(10, 0)), home())} {
		b.do(t, c)
		if !sameView(v, wasView) || !sameLane(l, wasLane) {
			t.Fatalf("behind %v an elder View is %+v, an elder Lane %+v", c, v, l)
		}
	}
}
