package node_test

import (
	"fmt"
	"maps"
	"slices"
	"testing"

	"culvert/api"
	"culvert/disk"
	"culvert/node"
	"culvert/store"
)

// triple is a generation with a counter of it, of a side of a key.
type triple struct {
	key     string
	side    int
	gen     int
	counter uint64
}

// history is a device on which Format has answered OK, and all nodes that are booted over it, one behind the other. It holds them to P20.9 to P20.11 alone, by what they answer and tell. What a call was committing is asked of a shadow: a node over a twin of the device, to which nothing is refused.
type history struct {
	t         *testing.T
	d         *disk.Disk
	n         *node.Node // nil, if none lives
	shadow    *node.Node
	used      map[triple]int // by which step
	delivered map[triple]int
	stamps    map[string]api.Stamp    // of the last init that was answered, by key
	dead      map[triple]uint64       // by key and generation: below that nothing is taken any more (the ceilings that Boots have found)
	curs      map[string]map[int]bool // which generations have been Cur in this life, by key
	may       []told                  // what a Boot may find
	boots     int                     // of the latest life
	came      [][]byte                // all that was ever taken or dropped
	steps     []string
	met       tally
}

func newHistory(t *testing.T, sectors int) *history {
	t.Helper()
	return &history{t: t, d: formatted(t, sectors), used: map[triple]int{}, delivered: map[triple]int{}, stamps: map[string]api.Stamp{}, dead: map[triple]uint64{}, may: []told{{}}, met: tally{}}
}

// fork is a history that goes on over a twin of the device, behind all that has been; no node lives.
func (h *history) fork(what string) *history {
	out := *h
	out.d, out.n, out.shadow = twin(h.t, h.d), nil, nil
	out.used, out.delivered, out.stamps, out.dead = maps.Clone(h.used), maps.Clone(h.delivered), maps.Clone(h.stamps), maps.Clone(h.dead)
	out.came, out.steps, out.may = slices.Clone(h.came), append(slices.Clone(h.steps), what), slices.Clone(h.may)
	return &out
}

func (h *history) fail(format string, args ...any) {
	h.t.Helper()
	h.t.Fatalf("%s; the last of %d steps: %v", fmt.Sprintf(format, args...), len(h.steps), h.steps[max(0, len(h.steps)-30):])
}

func tellQuietly(n *node.Node) told { return tellOf(n, nil, &ledger{}) }

// boot begins a life, with what is armed; the device's power must be on.
func (h *history) boot(p api.Params, l ...api.Fault) api.Errno {
	h.t.Helper()
	h.steps = append(h.steps, fmt.Sprintf("Boot(%v) with %v", p, l))
	opening, other := twin(h.t, h.d), twin(h.t, h.d)
	if _, e := store.Open(opening); e != api.OK {
		h.fail("the store does not open: %d", e)
	}
	shadow, e := node.Boot(other, p)
	if e != api.OK {
		h.fail("a Boot to which nothing is refused answers %d", e)
	}
	found := tellQuietly(shadow)
	at := slices.IndexFunc(h.may, func(a told) bool { return sameState(a, found) })
	if at < 0 {
		h.fail("P20.11: a Boot finds %+v, and may find %+v", found, h.may)
	}
	arm(h.t, h.d, l...)
	n, e := node.Boot(h.d, p)
	h.n, h.shadow, h.curs = n, shadow, map[string]map[int]bool{}
	switch {
	case e == api.OK && (n == nil || !sameTold(tellQuietly(n), found)):
		h.fail("P20.11: a Boot finds %+v, another one %+v", tellQuietly(n), found)
	case e == api.OK:
		h.lives(found, at)
	case e != api.ErrDevice || n != nil:
		h.fail("Boot = %v, %d", n != nil, e)
	case h.d.Done() > opening.Done(): // the flush was done: what was found is fixed
		h.may = []told{found}
		h.met["a Boot refused behind its flush"]++
	default:
		h.met["a Boot refused ahead of its flush"]++
	}
	return e
}

// lives: a life has begun.
func (h *history) lives(found told, at int) {
	h.t.Helper()
	h.met[fmt.Sprintf("found %d", at)]++
	h.may = []told{found}
	if found.boots <= h.boots {
		h.fail("the boots are %d behind %d", found.boots, h.boots)
	}
	h.boots = found.boots
	for _, l := range found.lanes {
		x := triple{key: string(l.Key), gen: l.Cur}
		h.dead[x] = max(h.dead[x], l.Ceil)
	}
	h.sees(found)
}

// sees knows which generations are Cur.
func (h *history) sees(a told) {
	for _, l := range a.lanes {
		if h.curs[string(l.Key)] == nil {
			h.curs[string(l.Key)] = map[int]bool{}
		}
		h.curs[string(l.Key)][l.Cur] = true
	}
}

func (h *history) crash(keep []bool) {
	h.steps = append(h.steps, fmt.Sprintf("Crash(%v)", keep))
	h.d.Crash(keep)
	h.n, h.shadow = nil, nil
	h.met["crashed"]++
}

// do does a call of the node that lives, and holds what it answers to the promises.
func (h *history) do(c call) answer {
	h.t.Helper()
	h.steps = append(h.steps, c.String())
	before := tellQuietly(h.n)
	var out ledger
	whole := c.run(h.t, h.shadow, &out)
	got := c.run(h.t, h.n, &out)
	if c.kind == "Take" {
		h.came = append(h.came, c.data)
	}
	switch {
	case got.err == api.ErrDevice:
		h.may = []told{h.may[0], tellQuietly(h.shadow)}
		h.met["refused "+c.kind]++
		return got
	case got.err == api.ErrDown:
		return got
	case !same(got, whole):
		h.fail("%v = %+v, and of another node %+v", c, got, whole)
	}
	behind := tellQuietly(h.n)
	if got.err != api.OK && !sameState(before, behind) {
		h.fail("%v = %d has changed something", c, got.err)
	}
	h.may = []told{behind}
	h.judge(c, got, before)
	h.sees(behind)
	return got
}

// judge holds an answer to P20.9 and P20.10.
func (h *history) judge(c call, a answer, before told) {
	h.t.Helper()
	if len(a.packet) > 0 {
		h.answered(a.packet, before)
	}
	head, _ := readHead(c.data)
	switch a.taken.Kind {
	case api.TkAnswered:
		h.taken(head, before)
		h.answered(a.taken.Data, before)
		h.rises(c.data, before)
	case api.TkOpened:
		h.taken(head, before)
		h.met["opened"]++
	case api.TkDelivered:
		h.taken(head, before)
		h.delivers(head, before)
	case api.TkDropped:
		h.met["dropped"]++
	}
}

// laneFor is the lane of the peer of a link.
func laneFor(a told, link int) api.Lane {
	at := slices.IndexFunc(a.peers, func(p api.Peer) bool { return p.Link == link })
	if at < 0 {
		return api.Lane{}
	}
	l, _ := laneAmong(a.lanes, a.peers[at].Key)
	return l
}

// answered: P20.9 of a packet.
func (h *history) answered(b []byte, before told) {
	h.t.Helper()
	head, ok := readHead(b)
	l := laneFor(before, head.Link)
	if _, opens := opened(l.Key, l.Side, b); !ok || !opens {
		h.fail("%x is answered", b)
	}
	x := triple{string(l.Key), l.Side, head.Gen, head.Counter}
	if step, twice := h.used[x]; twice {
		h.fail("P20.9: %+v has the nonce of what was answered at the step %d", head, step)
	}
	h.used[x] = len(h.steps)
	h.met[map[int]string{pkInit: "init", pkReply: "reply", pkData: "data"}[head.Type]]++
}

// taken: what a Boot has found is behind it for ever.
func (h *history) taken(head api.Head, before told) {
	h.t.Helper()
	l := laneFor(before, head.Link)
	if head.Counter < h.dead[triple{key: string(l.Key), gen: head.Gen}] {
		h.fail("P20.10: %+v is taken, below the ceiling that a Boot has found", head)
	}
}

// rises: the stamps of the inits that are answered rise.
func (h *history) rises(b []byte, before told) {
	h.t.Helper()
	head, _ := readHead(b)
	l := laneFor(before, head.Link)
	text, _ := opened(l.Key, 1-l.Side, b)
	s := readStamp(text)
	if last, was := h.stamps[string(l.Key)]; was && !less(last, s) {
		h.fail("P20.10: an init of the stamp %v is answered behind one of %v", s, last)
	}
	h.stamps[string(l.Key)] = s
}

// delivers: no counter twice, and of no generation that has not been Cur in this life.
func (h *history) delivers(head api.Head, before told) {
	h.t.Helper()
	l := laneFor(before, head.Link)
	x := triple{string(l.Key), 1 - l.Side, head.Gen, head.Counter}
	if step, twice := h.delivered[x]; twice {
		h.fail("P20.10: %+v is delivered, and was at the step %d", head, step)
	}
	h.delivered[x] = len(h.steps)
	if !h.curs[string(l.Key)][head.Gen] {
		h.fail("P20.10: %+v is delivered, of a generation that has not been in force in this life", head)
	}
	h.met["delivered"]++
	if head.Gen != l.Cur {
		h.met["delivered of an older generation"]++
	}
}

// next is a call that is likely to be done.
func (h *history) next(s sampler) call {
	if len(h.came) > 0 && s.IntN(6) == 0 {
		return take(pick(s, h.came...))
	}
	return s.call(tellQuietly(h.n))
}

// P20.9 to P20.11: long histories over many lives: calls of all kinds, anything armed, crashes that keep any survivors, Boots that are refused, lives that are left for another one, keys that are taken away and given again.
func TestHistories(t *testing.T) {
	t.Parallel()
	met := tally{}
	for seed := range 120 {
		s := newSampler(uint64(1000 + seed))
		s.links, s.keys = []int{7, 8}, 3
		h := newHistory(t, pick(s, 32, 32, 33, 48))
		h.met = met
		h.boot(s.params())
		h.do(commit(add(7, key(1), 0), allow(7, "10.0.0.0/8"), add(8, key(2), 1), allow(8, "11.0.0.0/8")))
		for range 120 {
			h.step(s)
		}
	}
	met.want(t, 20, "init", "reply", "data", "opened", "delivered", "delivered of an older generation", "dropped", "crashed", "found 0", "found 1",
		"a Boot refused ahead of its flush", "a Boot refused behind its flush", "refused Commit", "refused Send", "refused Rekey", "refused Take", "given again", "left for another one")
}

// step does one thing.
func (h *history) step(s sampler) {
	h.t.Helper()
	switch x := s.IntN(30); {
	case h.n == nil || h.n.Down() || x == 0:
		h.again(s)
	case x < 3 && h.d.Power():
		l := s.faults()
		h.steps = append(h.steps, fmt.Sprintf("Arm(%v)", l))
		arm(h.t, h.d, l...)
	default:
		c := h.next(s)
		before := tellQuietly(h.n)
		if a := h.do(c); a.err == api.OK && c.kind == "Commit" && h.givenAgain(before) {
			h.met["given again"]++
		}
	}
}

// givenAgain tells whether a key that had a lane was given by the last call.
func (h *history) givenAgain(before told) bool {
	return slices.ContainsFunc(h.may[0].lanes, func(l api.Lane) bool {
		was, had := laneAmong(before.lanes, l.Key)
		return had && l.Cur > was.Cur
	})
}

// again begins another life, behind a crash or not, behind Boots that are refused or not.
func (h *history) again(s sampler) {
	h.t.Helper()
	if !h.d.Power() || s.IntN(2) == 0 {
		h.crash(s.keep(len(h.d.Pending())))
	} else {
		h.met["left for another one"]++
	}
	for s.IntN(3) == 0 {
		h.boot(s.params(), fault(1+s.IntN(12), 1+s.IntN(2)))
		if !h.d.Power() || s.IntN(4) == 0 {
			h.crash(s.keep(len(h.d.Pending())))
		}
	}
	h.boot(s.params())
}

// survivors are which of m writes a crash keeps: in all ways, if they are few; else nothing, all, each by itself, all but each, the first ones.
func survivors(m int) [][]bool {
	var out [][]bool
	if m <= 3 {
		for number := range 1 << m {
			keep := make([]bool, m)
			for i := range keep {
				keep[i] = number&(1<<i) != 0
			}
			out = append(out, keep)
		}
		return out
	}
	for i := range m {
		one, ahead := make([]bool, m), make([]bool, m)
		one[i] = true
		for j := range i {
			ahead[j] = true
		}
		others := slices.Repeat([]bool{true}, m)
		others[i] = false
		out = append(out, one, ahead, others)
	}
	return append(out, slices.Repeat([]bool{true}, m))
}

// scene is a history behind which each kind of call commits something: a node with two peers, a key without one, openings, older windows, packets that came; so many places are left in the region.
func scene(t *testing.T, left int) *history {
	t.Helper()
	h := newHistory(t, 32)
	h.boot(params(2, 64))
	h.do(commit(add(7, key(1), 0), allow(7, "10.0.0.0/8"), add(8, key(2), 1), allow(8, "11.0.0.0/8"), add(9, key(3), 0)))
	h.do(commit(remove(9)))
	for counter := range uint64(4) {
		h.do(take(sealed(key(1), 1, headOf(pkData, 7, 1, counter), pay("10.0.0.1", "1.1.1.1", "x"))))
		h.do(send(pay("1.1.1.1", "10.0.0.1", "x")))
	}
	h.do(tick(stampOf(5, 0)))
	h.do(rekey(7))
	for i := 0; ; i++ {
		if _, _, place := mustOpen(t, twin(t, h.d)).State(); place == 15-left {
			return h
		}
		h.do(rekey(8))
	}
}

// acts are calls of all kinds, behind a scene.
func acts() []call {
	return []call{
		commit(setKey(7, key(1), 0), add(9, key(3), 0), allow(9, "12.0.0.0/8")),
		commit(remove(7), add(7, key(3), 0)),
		send(pay("1.1.1.1", "10.0.0.1", "x")),
		rekey(7),
		take(sealed(key(1), 1, headOf(pkData, 7, 1, 4), pay("10.0.0.1", "1.1.1.1", "x"))),
		take(sealed(key(1), 1, headOf(pkInit, 7, 2, 0), stampBytes(stampOf(6, 0)))),
		take(sealed(key(1), 1, headOf(pkInit, 7, 9, 1), stampBytes(stampOf(6, 0)))),
		take(sealed(key(1), 1, headOf(pkReply, 7, 2, 0), stampBytes(stampOf(5, 0)))),
	}
}

// goesOn is what a life does behind that: all that came comes again, and more; packets are made; a key is taken away and given again.
func (h *history) goesOn() {
	h.t.Helper()
	for range 2 {
		for _, p := range slices.Clone(h.came) {
			h.do(take(p))
		}
		for range 3 {
			h.do(send(pay("1.1.1.1", "10.0.0.1", "x")))
		}
		h.do(rekey(7))
		l := laneFor(h.may[0], 7)
		for counter := range uint64(4) {
			h.do(take(sealed(l.Key, 1-l.Side, headOf(pkData, 7, l.Cur, l.Ceil+counter), pay("10.0.0.1", "1.1.1.1", "x"))))
		}
		h.do(commit(setKey(7, key(1), 0)))
	}
}

// P20.9 to P20.11: each operation of each kind of call refused, with and without a loss of power; any survivors of a crash, or none; and a life behind that to which all comes again.
func TestRefusedAtEachOperation(t *testing.T) {
	t.Parallel()
	met := tally{}
	for _, left := range []int{3, 0} {
		for _, act := range acts() {
			for _, kind := range []int{power, io} {
				for k := 1; refusedAt(t, met, left, act, k, kind); k++ {
				}
			}
		}
	}
	met.want(t, 20, "found 0", "found 1")
}

// refusedAt lets the k-th operation of a call behind a scene meet a fault, and goes on behind that in all ways; false, if the call has fewer operations.
func refusedAt(t *testing.T, met tally, left int, act call, k, kind int) bool {
	t.Helper()
	h := scene(t, left)
	h.met = met
	arm(t, h.d, fault(k, kind))
	a := h.do(act)
	if a.err == api.OK && k > 2 {
		return false
	}
	if a.err != api.ErrDevice {
		h.fail("%v = %+v", act, a)
	}
	if kind == io {
		x := h.fork("no crash")
		x.boot(params(3, 64))
		x.goesOn()
	}
	for _, keep := range survivors(len(h.d.Pending())) {
		x := h.fork("a crash")
		x.crash(keep)
		x.boot(params(3, 64))
		x.goesOn()
	}
	return true
}

// P20.11: Boots that do not answer OK between two that do: refused at each of their operations (by turns with and without a loss of power), behind a call that was refused at its last one, so that a Boot may find either; what one has found behind its flush the next one finds.
func TestBootsBetween(t *testing.T) {
	t.Parallel()
	met := tally{}
	for _, left := range []int{3, 0} {
		for number, act := range acts() {
			ops := 2
			if left == 0 {
				ops += 2 + 2 // pieces of the state: one; a superblock, two flushes
			}
			h := scene(t, left)
			h.met = met
			arm(t, h.d, fault(ops, io))
			if a := h.do(act); a.err != api.ErrDevice {
				h.fail("%v = %+v", act, a)
			}
			for k := 1; ; k++ {
				x := h.fork("Boots between")
				kind := 1 + (k+number)%2
				if x.boot(params(2, 64), fault(k, kind)) == api.OK {
					break
				}
				for _, keep := range survivors(len(x.d.Pending())) {
					y := x.fork("a crash")
					y.crash(keep)
					y.boot(params(2, 64), fault(1+(k+number)%9, io))
					y.boot(params(2, 64))
					y.goesOn()
				}
			}
		}
	}
	met.want(t, 20, "found 0", "found 1", "a Boot refused ahead of its flush", "a Boot refused behind its flush")
}
