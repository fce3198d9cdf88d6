package session_test

import (
	"fmt"
	"slices"
	"testing"

	"culvert/api"
	"culvert/session"
)

// triple is a generation with a counter of it. (A life is of one key and one side.)
type triple struct {
	gen     int
	counter uint64
}

// life is a session and all that follow it. It holds them to P19.7 to P19.9 alone, by what they answer and by what they commit, and knows nothing else of what they must answer.
type life struct {
	s         *session.Session
	lane      api.Lane // that New was given, or that was committed since
	committed api.Lane // that was committed last, in any of the sessions
	asked     api.Lane // of the last call of commit, if that was refused
	refused   bool
	packets   map[triple]int // by which step they were answered
	delivered map[triple]int
	stamp     api.Stamp // of the last init that was answered
	came      [][]byte  // all that was ever given to it
	steps     []string
	done      map[string]int
}

func newLife(t *testing.T, l api.Lane, p api.Params) *life {
	t.Helper()
	n := &life{committed: l, stamp: l.Seen, packets: map[triple]int{}, delivered: map[triple]int{}, done: map[string]int{}}
	n.begin(t, l, p)
	return n
}

func (n *life) begin(t *testing.T, l api.Lane, p api.Params) {
	t.Helper()
	n.steps = append(n.steps, fmt.Sprintf("New(%+v)", p))
	n.s, n.lane = session.New(api.Peer{Link: link, Key: l.Key}, l, p), cloned(l)
	if n.s == nil {
		t.Fatalf("New(%+v, %+v) = nil", l, p)
	}
}

// follow makes the next session, with the lane that was committed last, or with that of the last call of commit, if it was refused and that is the choice.
func (n *life) follow(t *testing.T, p api.Params, asked bool) {
	t.Helper()
	if asked && n.refused {
		n.done["followed by what was refused"]++
		n.begin(t, n.asked, p)
		return
	}
	n.done["followed"]++
	n.begin(t, n.committed, p)
}

func (n *life) fail(t *testing.T, format string, args ...any) {
	t.Helper()
	t.Fatalf("%s; the lane is %+v; the last steps: %v", fmt.Sprintf(format, args...), n.lane, n.steps[max(0, len(n.steps)-30):])
}

// commit is what the sessions are handed.
func (n *life) commit(e api.Errno) func(l api.Lane) api.Errno {
	return func(l api.Lane) api.Errno {
		n.refused = e != api.OK
		if n.refused {
			n.asked = cloned(l)
		} else {
			n.committed, n.lane = cloned(l), cloned(l)
		}
		return e
	}
}

// do does a call, and holds what it answers to the promises.
func (n *life) do(t *testing.T, c call) answer {
	n.steps = append(n.steps, c.String())
	var a answer
	switch c.kind {
	case "Send":
		a.packet, a.err = n.s.Send(c.data, n.commit(c.refusal))
	case "Rekey":
		a.packet, a.err = n.s.Rekey(c.clock, n.commit(c.refusal))
	case "Take":
		a.taken, a.err = n.s.Take(c.data, c.way.table, n.commit(c.refusal))
		n.came = append(n.came, c.data)
	}
	if len(a.packet) > 0 {
		n.answered(t, a.packet)
	}
	h, _ := readHead(c.data)
	switch a.taken.Kind {
	case api.TkAnswered:
		n.answered(t, a.taken.Data)
		n.rises(t, c.data)
	case api.TkDelivered:
		n.delivers(t, h)
	case api.TkOpened:
		n.done["opened"]++
	case api.TkDropped:
		n.done["dropped"]++
	}
	if a.err != api.OK {
		n.done["refused"]++
	}
	return a
}

// answered: P19.7 and the first sentence of P19.9 of a packet.
func (n *life) answered(t *testing.T, b []byte) {
	h, ok := readHead(b)
	if !ok {
		n.fail(t, "%x is answered", b)
	}
	n.done[map[int]string{pkInit: "init", pkReply: "reply", pkData: "data"}[h.Type]]++
	x := triple{h.Gen, h.Counter}
	if step, twice := n.packets[x]; twice {
		n.fail(t, "%+v has the nonce of what was answered at the step %d of %d", h, step, len(n.steps))
	}
	n.packets[x] = len(n.steps)
	of := h.Gen == n.lane.Cur && h.Counter < n.lane.SendCur
	if !of && !(h.Type == pkInit && h.Gen <= n.lane.Next) {
		n.fail(t, "%+v is ahead of what was committed", h)
	}
}

// rises: the stamps of the inits that are answered rise.
func (n *life) rises(t *testing.T, b []byte) {
	text, _ := opened(n.lane.Key, 1-n.lane.Side, b)
	s, _ := readStamp(text)
	if place(s).Cmp(place(n.stamp)) <= 0 {
		n.fail(t, "an init of the stamp %v is answered behind one of %v", s, n.stamp)
	}
	n.stamp = s
	n.done["answered"]++
}

// delivers: no counter twice, and the second sentence of P19.9.
func (n *life) delivers(t *testing.T, h api.Head) {
	x := triple{h.Gen, h.Counter}
	if step, twice := n.delivered[x]; twice {
		n.fail(t, "%+v is delivered, and was at the step %d of %d", h, step, len(n.steps))
	}
	n.delivered[x] = len(n.steps)
	if h.Gen > n.lane.Cur || h.Gen == n.lane.Cur && h.Counter >= n.lane.Ceil {
		n.fail(t, "%+v is delivered ahead of what was committed", h)
	}
	n.done["delivered"]++
	if h.Gen < n.lane.Cur {
		n.done["delivered of an older generation"]++
	}
}

// from is a packet that the other side has sealed.
func (n *life) from(kind, gen int, counter uint64, text []byte) call {
	gen = min(max(gen, 1), maxGen)
	return take(sealed(n.lane.Key, 1-n.lane.Side, headOf(kind, link, gen, min(counter, maxCounter)), text), home())
}

// next is a call that is likely to be done: what the session tells is asked for it.
func (n *life) next(s sampler) call {
	l, v := n.s.Lane(), n.s.View()
	gens := slices.Concat([]int{l.Cur, l.Cur, l.Cur, l.Cur}, v.Olds)
	switch s.IntN(13) {
	case 0, 1, 2:
		return send(fromTo(1, 2, "x"))
	case 3, 4:
		return rekey(above(v.Last, s.Int64N(4)-1))
	case 5:
		return n.from(pkInit, pick(s, []int{l.Cur + 1, l.Cur + 2, l.Next, l.Next + 1, l.Cur}), uint64(s.IntN(3)), stampBytes(above(l.Seen, s.Int64N(4))))
	case 6:
		if len(v.Openings) > 0 {
			o := pick(s, v.Openings)
			return n.from(pkReply, o.Gen, uint64(s.IntN(3)), stampBytes(o.Stamp))
		}
	case 7, 8:
		if len(n.came) > 0 {
			return take(pick(s, n.came), home())
		}
	}
	base := pick(s, []uint64{v.Top, v.Top, l.Ceil, v.Floor, 0})
	return n.from(pkData, pick(s, gens), base+uint64(s.IntN(7))-min(base, 2), fromTo(1, 2, "x"))
}

// step does one thing: a call, with a commit that may refuse, or a new session.
func (n *life) step(t *testing.T, s sampler) {
	switch s.IntN(16) {
	case 0:
		n.follow(t, s.params(), s.IntN(3) > 0)
	case 1, 2, 3:
		n.do(t, n.next(s).but(api.ErrIO))
	default:
		n.do(t, n.next(s))
	}
}

func wantDone(t *testing.T, done map[string]int, least int) {
	t.Helper()
	for _, what := range []string{"init", "reply", "data", "answered", "delivered", "delivered of an older generation", "opened", "dropped", "refused", "followed", "followed by what was refused"} {
		if done[what] < least {
			t.Errorf("%s: only %d times", what, done[what])
		}
	}
}

// P19.7 to P19.9: long histories over many sessions, with any params, commits that refuse, and all that has come coming again.
func TestHistories(t *testing.T) {
	t.Parallel()
	s, done := newSampler(4), map[string]int{}
	for i := range 60 {
		n := newLife(t, newLane(i%2), s.params())
		for range 400 {
			n.step(t, s)
		}
		for what, count := range n.done {
			done[what] += count
		}
	}
	wantDone(t, done, 100)
}

// P19.7 to P19.9: the same of lanes of any kind, at the ends of generations, counters and stamps too.
func TestHistoriesOfAnyLanes(t *testing.T) {
	t.Parallel()
	s, done := newSampler(5), map[string]int{}
	for range 150 {
		n := newLife(t, s.lane(), s.params())
		for range 80 {
			n.step(t, s)
		}
		for what, count := range n.done {
			done[what] += count
		}
	}
	wantDone(t, done, 50)
}

// moves are what may come next, of small numbers, each with a commit that does it and with one that refuses.
func moves() []func(t *testing.T, n *life) {
	var out []func(t *testing.T, n *life)
	for _, next := range []func(n *life) call{
		func(n *life) call { return send(fromTo(1, 2, "x")) },
		func(n *life) call { return rekey(stampOf(5, 0)) },
		func(n *life) call { // its reply
			v := n.s.View()
			if len(v.Openings) == 0 {
				return n.from(pkReply, n.s.Lane().Next, 0, stampBytes(stampOf(5, 0)))
			}
			return n.from(pkReply, v.Openings[0].Gen, 0, stampBytes(v.Openings[0].Stamp))
		},
		func(n *life) call {
			l := n.s.Lane()
			return n.from(pkInit, l.Cur+1, 0, stampBytes(stampOf(l.Seen.Sec+1, 0)))
		},
		func(n *life) call { return n.from(pkData, n.s.Lane().Cur, 1, fromTo(1, 2, "x")) },
		func(n *life) call {
			return n.from(pkData, n.s.Lane().Cur, n.s.Lane().Ceil, fromTo(1, 2, "x"))
		},
	} {
		out = append(out, func(t *testing.T, n *life) { n.do(t, next(n)) }, func(t *testing.T, n *life) { n.do(t, next(n).but(api.ErrIO)) })
	}
	return append(out,
		func(t *testing.T, n *life) { n.follow(t, params(2, 64), false) },
		func(t *testing.T, n *life) { n.follow(t, params(1, 128), true) },
	)
}

// P19.7 to P19.9: all histories of three moves; behind each of them all that came comes again, in this session and in the next, and both send.
func TestAllShortHistories(t *testing.T) {
	t.Parallel()
	all, count := moves(), 0
	for i := range len(all) * len(all) * len(all) {
		n := newLife(t, newLane(i%2), params(2, 64))
		for rest, k := i, 0; k < 3; rest, k = rest/len(all), k+1 {
			all[rest%len(all)](t, n)
		}
		for _, asked := range []bool{false, true} {
			came := n.came
			for _, b := range came {
				n.do(t, take(b, home()))
			}
			n.do(t, send(fromTo(1, 2, "x")))
			n.do(t, rekey(stampOf(1, 0)))
			n.do(t, send(fromTo(1, 2, "x")))
			n.came = came
			n.follow(t, params(3, 64), asked)
		}
		count++
	}
	if count != 14*14*14 {
		t.Errorf("%d histories", count)
	}
}

// P19.8: a whole session's data comes again to each session that follows it: nothing is delivered twice, and what is of the generation that was found as Cur and below its Ceil is dropped.
func TestOnceOverSessions(t *testing.T) {
	t.Parallel()
	for _, block := range []int{1, 3, 50} {
		n := newLife(t, newLane(0), params(block, 64))
		for range 4 {
			cur := n.s.Lane().Cur
			for c := range uint64(12) {
				n.do(t, n.from(pkData, cur, c*3%12, fromTo(1, 2, "x")))
			}
			n.do(t, n.from(pkInit, cur+1, 0, stampBytes(stampOf(n.s.Lane().Seen.Sec+1, 0))))
			for c := range uint64(12) {
				n.do(t, n.from(pkData, cur, c, fromTo(1, 2, "x")))
				n.do(t, n.from(pkData, cur+1, c, fromTo(1, 2, "x")))
			}
			n.follow(t, params(block+1, 128), false)
			found := n.s.Lane()
			for _, b := range slices.Clone(n.came) {
				h, _ := readHead(b)
				a := n.do(t, take(b, home()))
				if h.Gen == found.Cur && h.Counter < found.Ceil && a.taken.Kind != api.TkDropped {
					n.fail(t, "%+v is taken behind a new session", h)
				}
			}
			n.came = nil
		}
		if n.done["delivered"] < 40 {
			t.Errorf("only %d were delivered", n.done["delivered"])
		}
	}
}

// P19.7 to P19.9: two lives of one key, with a network between that loses, doubles and turns round, with commits that refuse and new sessions on either side: the triples of both together are unlike one another, and what is delivered was sent, once.
func TestTwoSides(t *testing.T) {
	t.Parallel()
	s, done := newSampler(6), map[string]int{}
	for range 40 {
		ends := [2]*life{newLife(t, newLane(0), s.params()), newLife(t, newLane(1), s.params())}
		var under [2][][]byte // on the way to each
		sent, got := map[string]int{}, map[string]int{}
		for i := range 400 {
			k := s.IntN(2)
			n, refusal := ends[k], pick(s, append(make([]api.Errno, 4), api.ErrIO))
			a := answer{}
			switch x := s.IntN(20); {
			case x < 6:
				body := fmt.Sprint(k, " ", i)
				a = n.do(t, send(fromTo(1, 2, body)).but(refusal))
				sent[body]++
			case x == 6:
				a = n.do(t, rekey(stampOf(i, 0)).but(refusal))
			case x == 7 && s.IntN(2) == 0:
				n.follow(t, s.params(), true)
			case len(under[k]) > 0:
				at := s.IntN(min(len(under[k]), 4))
				a = n.do(t, take(under[k][at], home()).but(refusal))
				if s.IntN(3) > 0 {
					under[k] = slices.Delete(under[k], at, at+1)
				}
			}
			if a.taken.Kind == api.TkDelivered {
				got[string(a.taken.Data[9:])]++
			}
			if a.taken.Kind == api.TkAnswered {
				a.packet = a.taken.Data
			}
			if len(a.packet) > 0 && s.IntN(10) > 0 {
				under[1-k] = append(under[1-k], a.packet)
			}
		}
		for body, count := range got {
			if count != 1 || sent[body] != 1 {
				t.Fatalf("%q was sent %d times, and delivered %d times", body, sent[body], count)
			}
		}
		for _, n := range ends {
			for what, count := range n.done {
				done[what] += count
			}
		}
	}
	wantDone(t, done, 20)
}

// P19.2 to P19.4 together: where nothing fails all that is sent is delivered, unchanged and in order, over rekeys of both sides.
func TestNothingFails(t *testing.T) {
	a, b := newLife(t, newLane(0), params(3, 64)), newLife(t, newLane(1), params(5, 64))
	give := func(to *life, packet []byte, kind int) []byte {
		t.Helper()
		x := to.do(t, take(packet, home()))
		if x.err != api.OK || x.taken.Kind != kind {
			to.fail(t, "%+v, want the kind %d", x, kind)
		}
		return x.taken.Data
	}
	for i := range 30 {
		for j := range i % 7 {
			body := fromTo(1, 2, fmt.Sprint(i, j))
			if got := give(b, a.do(t, send(body)).packet, api.TkDelivered); string(got) != string(body) {
				t.Fatalf("%x is delivered, and was %x", got, body)
			}
			if got := give(a, b.do(t, send(body)).packet, api.TkDelivered); string(got) != string(body) {
				t.Fatalf("%x is delivered, and was %x", got, body)
			}
		}
		reply := give(b, a.do(t, rekey(stampOf(i/2, 0))).packet, api.TkAnswered)
		late := a.do(t, send(fromTo(1, 2, "late"))).packet
		give(a, reply, api.TkOpened)
		give(b, late, api.TkDelivered)
		a, b = b, a
	}
}
