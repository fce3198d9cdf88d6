package session_test

import (
	"math/rand/v2"
	"slices"
	"testing"

	"culvert/api"
)

// sampler makes things that are the same at every run.
type sampler struct{ *rand.Rand }

func newSampler(seed uint64) sampler { return sampler{rand.New(rand.NewPCG(seed, 19))} }

func pick[T any](s sampler, l []T) T { return l[s.IntN(len(l))] }

func (s sampler) list(n int) []byte {
	b := make([]byte, n)
	for i := range b {
		b[i] = byte(s.Uint32())
	}
	return b
}

// lane may be so: new ones, some at the ends, some with numbers of any size.
func (s sampler) lane() api.Lane {
	l := newLane(s.IntN(2))
	switch s.IntN(6) {
	case 0:
		l.Cur, l.Next, l.Seen = maxGen-s.IntN(6), maxGen-s.IntN(6), above(greatest(), -s.Int64N(5))
	case 1:
		l.SendCur, l.Ceil = maxCounter+1-uint64(s.IntN(9)), maxCounter+1-uint64(s.IntN(90))
	case 2:
		l.Cur, l.Next, l.Seen = 1+s.IntN(9), s.IntN(12), stampOf(s.IntN(9), s.IntN(maxNano))
	case 3:
		l.SendCur, l.Ceil = s.Uint64()>>s.IntN(64), s.Uint64()>>s.IntN(64)
	}
	return l
}

func (s sampler) params() api.Params {
	return params(pick(s, []int{1, 1, 2, 3, 4, 5, 17, maxBlock}), pick(s, []int{64, 64, 128, 1024}))
}

func (s sampler) way() way {
	return pick(s, []way{home(), home(), home(), home(), home(), home(), home(), noWay(), noWay().to("0.0.0.0/0", 8), noWay().to("::/0", link)})
}

func (s sampler) payload() []byte {
	switch s.IntN(12) {
	case 0:
		return s.list(s.IntN(40))
	case 1:
		return fromTo6(byte(s.IntN(256)), 2, string(s.list(s.IntN(9))))
	case 2:
		return fromTo(byte(s.IntN(256)), 2, string(s.list(s.IntN(40))))
	case 3:
		return append([]byte{byte(s.IntN(9))}, s.list(s.IntN(40))...)
	}
	return fromTo(byte(s.IntN(128)), 2, string(s.list(s.IntN(4))))
}

func (s sampler) clock(p *plain) api.Stamp {
	switch s.IntN(12) {
	case 0:
		return pick(s, noStamps())
	case 1:
		return above(greatest(), -s.Int64N(3))
	case 2:
		return api.Stamp{}
	}
	return above(p.last, s.Int64N(7)-3)
}

// gen is one that the session knows, or near one that it knows.
func (s sampler) gen(p *plain) int {
	known := []int{p.lane.Cur, p.lane.Next, p.lane.Next + 1, p.lane.Cur + 1}
	for _, w := range p.windows {
		known = append(known, w.gen)
	}
	for _, o := range p.openings {
		known = append(known, o.Gen)
	}
	gen := pick(s, known)
	if s.IntN(8) == 0 {
		gen += s.IntN(5) - 2
	}
	return min(max(gen, 1), maxGen)
}

func (s sampler) counter(p *plain, gen int) uint64 {
	w, ok := p.windowOf(gen)
	if !ok || s.IntN(9) == 0 {
		return pick(s, []uint64{0, 0, 0, 1, uint64(s.IntN(200)), s.Uint64() >> s.IntN(64), p.lane.Ceil})
	}
	top, _ := w.top()
	near := pick(s, []uint64{top, top, top, p.lane.Ceil, w.floor, top - uint64(p.width), 0})
	if len(w.taken) > 0 && s.IntN(8) == 0 {
		return pick(s, w.taken)
	}
	return near + uint64(s.IntN(9)) - 3
}

func (s sampler) text(p *plain, kind, gen int) []byte {
	o, ok := p.openingOf(gen)
	switch {
	case kind == pkData:
		return s.payload()
	case s.IntN(20) == 0:
		return s.list(12)
	case kind == pkReply && ok && s.IntN(6) > 0:
		return stampBytes(o.Stamp)
	case kind == pkReply:
		return stampBytes(above(p.last, s.Int64N(5)-3))
	}
	return stampBytes(above(p.lane.Seen, s.Int64N(6)-1))
}

// packet is one that is likely to be taken, or nearly.
func (s sampler) packet(p *plain) []byte {
	kind := pick(s, []int{pkInit, pkReply, pkReply, pkData, pkData, pkData, pkData})
	gen, side, k, to := s.gen(p), 1-p.lane.Side, p.lane.Key, p.link
	if s.IntN(30) == 0 {
		side = 1 - side
	}
	if s.IntN(40) == 0 {
		k = key(s.IntN(1000) + 50)
	}
	if s.IntN(40) == 0 {
		to = pick(s, []int{1, 8, maxLink})
	}
	b := sealed(k, side, headOf(kind, to, gen, s.counter(p, gen)), s.text(p, kind, gen))
	switch s.IntN(50) {
	case 0:
		b[s.IntN(len(b))] ^= 1 << s.IntN(8)
	case 1:
		b = b[:s.IntN(len(b))]
	case 2:
		b = append(b, s.list(s.IntN(30))...)
	case 3:
		b = s.list(s.IntN(60))
	}
	return b
}

// call is any that may come next; old are packets that have been.
func (s sampler) call(p *plain, old [][]byte) call {
	var c call
	switch n := s.IntN(20); {
	case n < 4:
		c = send(s.payload())
	case n < 7:
		c = rekey(s.clock(p))
	case n < 9 && len(old) > 0:
		c = take(pick(s, old), s.way())
	default:
		c = take(s.packet(p), s.way())
	}
	if s.IntN(6) == 0 {
		c.refusal = pick(s, refusals())
	}
	return c
}

// tally counts what calls have come to.
type tally map[string]int

func (n tally) see(c call, a answer, older bool) {
	h, _ := readHead(c.data)
	what := c.kind
	if c.kind == "Take" {
		what = map[int]string{0: "none", pkInit: "init", pkReply: "reply", pkData: "data"}[h.Type]
	}
	if older && what == "data" {
		what = "older data"
	}
	switch {
	case a.err != api.OK && len(a.commits) > 0:
		n[what+" refused"]++
	case a.err == api.ErrPayload || a.err == api.ErrCounter || a.err == api.ErrStamp || a.err == api.ErrGen || a.err == api.ErrClock:
		n[what+" "+a.err.Error()]++
	case a.taken.Kind == api.TkDropped:
		n[what+" dropped "+a.taken.Code.Error()]++
	case len(a.commits) > 0:
		n[what+" committed"]++
	default:
		n[what]++
	}
	if r, ok := readHead(a.taken.Data); ok && a.taken.Kind == api.TkAnswered {
		n["answered with "+string(rune('0'+r.Counter))]++
	}
}

func (n tally) wantAll(t *testing.T, least int) {
	t.Helper()
	all := []string{"answered with 0", "answered with 1", "older data"}
	for _, what := range []string{"Send", "data"} {
		all = append(all, what, what+" committed", what+" refused")
	}
	for _, what := range []string{"Rekey", "init", "reply"} {
		all = append(all, what+" committed", what+" refused")
	}
	for what, codes := range map[string][]api.Errno{
		"Send": {api.ErrPayload, api.ErrCounter}, "Rekey": {api.ErrStamp, api.ErrGen, api.ErrClock},
	} {
		for _, code := range codes {
			all = append(all, what+" "+code.Error())
		}
	}
	for what, codes := range map[string][]api.Errno{
		"init":       {api.DropPeer, api.DropGen, api.DropSeal, api.DropStamp},
		"reply":      {api.DropPeer, api.DropGen, api.DropSeal, api.DropStamp},
		"data":       {api.DropPeer, api.DropGen, api.DropReplay, api.DropSeal, api.DropPayload, api.DropSource},
		"older data": {api.DropReplay, api.DropSeal, api.DropPayload, api.DropSource},
	} {
		for _, code := range codes {
			all = append(all, what+" dropped "+code.Error())
		}
	}
	for _, what := range all {
		if n[what] < least {
			t.Errorf("%s: only %d times", what, n[what])
		}
	}
}

// P19.1 to P19.6: any calls, of sessions with any lanes and params, against the plain form: what they answer, what they commit, and all that can be told behind each.
func TestAnyCalls(t *testing.T) {
	t.Parallel()
	s, n := newSampler(1), tally{}
	for range 500 {
		b := newBoth(t, s.lane(), s.params())
		var old [][]byte
		for range 60 {
			c := s.call(b.p, old)
			h, _ := readHead(c.data)
			_, isWindow := b.p.windowOf(h.Gen)
			n.see(c, b.do(t, c), isWindow && h.Gen != b.p.lane.Cur)
			if c.kind == "Take" {
				old = append(old, c.data)
			}
		}
	}
	n.wantAll(t, 15)
}

// P19.4: what was dropped may come again: behind other calls it is taken then, just as if it had never come.
func TestDroppedChangesNothing(t *testing.T) {
	t.Parallel()
	s, dropped := newSampler(2), 0
	for range 60 {
		l, p := s.lane(), s.params()
		b, fresh := newBoth(t, l, p), newBoth(t, l, p)
		var old [][]byte
		for range 40 {
			c := s.call(b.p, old)
			old = append(old, c.data)
			got := b.do(t, c)
			if got.taken.Kind == api.TkDropped {
				dropped++
				continue
			}
			if want := fresh.do(t, c); !same(got, want) { // it has never seen what was dropped
				t.Fatalf("%v: %+v, and without what was dropped %+v", c, got, want)
			}
			wantView(t, "View", b.s, fresh.s.View())
			wantLane(t, "Lane", b.s, fresh.s.Lane())
		}
	}
	if dropped < 500 {
		t.Errorf("only %d were dropped", dropped)
	}
}

// P19.6: sessions beside one another, of one lane, of one key with two sides, and of others: each is as if it were alone.
func TestSessionsBesideOneAnother(t *testing.T) {
	t.Parallel()
	s := newSampler(3)
	for range 15 {
		l, p := s.lane(), s.params()
		other := with(l, func(l *api.Lane) { l.Side = 1 - l.Side })
		third := with(s.lane(), func(l *api.Lane) { l.Key = key(77) })
		all := []*both{newBoth(t, l, p), newBoth(t, l, p), newBoth(t, other, p), newBothOf(t, 9, l, s.params()), newBoth(t, third, s.params())}
		var old [][]byte
		for range 150 {
			b := pick(s, all)
			c := s.call(b.p, old)
			got := b.do(t, c)
			if c.kind == "Take" {
				old = append(old, c.data)
			}
			if len(got.packet) > 0 { // the others get it too
				old = append(old, got.packet)
			}
			old = old[max(0, len(old)-20):]
			pick(s, all).look(t)
		}
		for _, b := range all {
			b.look(t)
		}
	}
}

// P19.2 to P19.4: all orders of some calls that lean on one another.
func TestAllOrders(t *testing.T) {
	t.Parallel()
	l := api.Lane{Key: key(5), Side: 0, Cur: 3, Next: 4, SendCur: 100, Ceil: 40, Seen: stampOf(1, 0)}
	one := newBoth(t, l, params(2, 64))
	calls := []call{
		rekey(stampOf(5, 0)), // an init of the generation 5
		take(one.init(5, 0, stampOf(2, 0)), home()),
		take(one.reply(5, 0, stampOf(5, 0)), home()),
		take(one.init(6, 1, stampOf(3, 0)), home()),
		take(one.data(3, 50), home()),
		take(one.data(5, 1), home()),
		send(fromTo(1, 2, "x")),
	}
	count := 0
	var walk func(left []call, done []call)
	walk = func(left, done []call) {
		if len(left) == 0 {
			count++
			b := newBoth(t, l, params(2, 64))
			for _, c := range done {
				b.do(t, c)
			}
			return
		}
		for i, c := range left {
			walk(slices.Concat(left[:i], left[i+1:]), append(slices.Clone(done), c))
		}
	}
	walk(calls, nil)
	if count != 5040 {
		t.Errorf("%d orders", count)
	}
}
