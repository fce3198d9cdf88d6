package world_test

import (
	"fmt"
	"slices"
	"testing"

	"culvert/api"
)

// next does what comes next: a step, or all that is under way is given.
func (x *watch) next(s sampler) {
	x.t.Helper()
	if len(x.came) > 0 && s.once(6) {
		at := s.IntN(min(len(x.came), 25))
		x.late(x.came[len(x.came)-1-at])
		return
	}
	op := s.op(x.p)
	if op.Kind == api.OpRun {
		x.gives()
		return
	}
	x.do(op)
	// Now and then what was just armed is met by the next step, whatever it is.
	if op.Kind == api.OpArm && s.once(2) && x.p.isUp(op.A&1) {
		x.do(pick(s, commitOf(op.A&1, s.changes(op.A&1)...), sendOf(op.A&1, s.payload(op.A&1)), api.Op{Kind: api.OpRekey, A: op.A & 1, Link: 7}))
	}
}

// P23.10, P0.6 to P0.8: long histories over many lives: any steps, crashes at any operation that keep any survivors, boots that are refused, copies, flips, junk that may be taken, late and lost packets.
func TestHistories(t *testing.T) {
	t.Parallel()
	met := tally{}
	for seed := range 80 {
		s := newSampler(uint64(2000 + seed))
		x := newWatch(t, pick(s, 32, 32, 33, 48))
		x.met = met
		for _, op := range steps(t, tunnel()...) {
			x.do(op)
		}
		for range 160 {
			x.next(s)
		}
	}
	met.want(t, 10, "sent 1", "sent 2", "sent 3", "taken 1", "taken 2", "taken 3", "found 0 of 1", "found 0 of 2", "found 1 of 2", "a boot refused", "refused 1", "refused 2", "refused 3", "refused 5",
		"step 7 event 3", "step 8 event 2", "step 9 event 3", "step 6 event 2", "step 5 event 7", "step 5 event 5", "step 11 event 9")
}

// scene is a history behind which steps of each kind commit something at node 0, with packets under way that it may take; so many places are left in the region of its log.
func scene(t *testing.T, met tally, left int) *watch {
	t.Helper()
	x := newWatch(t, 32)
	x.met = met
	for _, op := range steps(t, "boot 0 2 64", "boot 1 2 64", "commit 0 add 7 K1 0 , allow 7 10.1.0.0/16 , add 8 K2 0 , add 9 K3 0", "commit 1 add 7 K1 1 , allow 7 10.0.0.0/16", "commit 0 remove 9",
		"send 0 "+there, "send 0 "+there, "send 1 "+back, "send 1 "+back, "give 3", "give 1", "copy 2", "tick 0 5.000000000", "rekey 0 7", "give 6") {
		x.do(op)
	}
	// Under way to node 0: data (4), a reply (7), data above the Ceil (8), an init of the greater generation (9).
	x.do(sendOf(1, pay("10.1.0.1", "10.0.0.1", "late")))
	x.do(junk(0, sealed(key(1), 1, headOf(pkInit, 7, 9, 3), stampBytes(stampOf(6, 0)))))
	x.do(junk(0, sealed(key(1), 1, headOf(pkData, 7, 1, 40), pay("10.1.0.1", "10.0.0.1", "far"))))
	for range 15 {
		if free := 15 - x.places(); free == left {
			return x
		}
		x.do(api.Op{Kind: api.OpRekey, A: 0, Link: 8})
		x.do(api.Op{Kind: api.OpDrop, K: x.p.given})
	}
	x.fail("the region does not fill")
	return nil
}

// places are how many places of the region are taken: asked of the device's bytes, where the first one is.
func (x *watch) places() int {
	b := x.w.Durable(0)[17*512:]
	n := 0
	for ; n < 15 && b[n*512] != 0; n++ {
	}
	return n
}

// goesOn is what lives behind that do: all that is under way comes, and comes again; packets are made; a key is taken away and given again.
func (x *watch) goesOn() {
	x.t.Helper()
	for round := range 2 {
		for _, f := range x.w.Under() {
			x.do(api.Op{Kind: api.OpCopy, K: f.No})
		}
		x.gives()
		for _, f := range slices.Clone(x.came) {
			x.late(f)
		}
		for _, op := range steps(x.t, "send 0 "+there, "send 0 "+there, "send 0 "+there, "send 1 "+back, fmt.Sprintf("tick 0 1%d.000000000", round), "rekey 1 7", "rekey 0 7") {
			x.do(op)
		}
		x.gives()
		x.gives()
		x.do(steps(x.t, "commit 0 setkey 7 K1 0")[0])
		x.do(steps(x.t, "crash 1 -")[0])
		x.do(steps(x.t, "boot 1 3 64")[0])
	}
}

// survivors are which of m writes a crash keeps: in all ways, if they are few; else nothing, all, each by itself, all but each.
func survivors(m int) [][]bool {
	var out [][]bool
	if m <= 3 {
		for number := range 1 << m {
			keep := make([]bool, m)
			for i := range keep {
				keep[i] = number&(1<<i) != 0
			}
			out = append(out, keep)
		}
		return out
	}
	for i := range m {
		one, others := make([]bool, m), slices.Repeat([]bool{true}, m)
		one[i], others[i] = true, false
		out = append(out, one, others)
	}
	return append(out, nil, slices.Repeat([]bool{true}, m))
}

// P23.10, P0.6 to P0.8: each operation of each kind of step refused, with and without a loss of power, with any survivors of a crash behind it, or none; and lives behind that to which all comes again.
func TestRefusedAtEachOperation(t *testing.T) {
	t.Parallel()
	met := tally{}
	acts := steps(t, "commit 0 setkey 7 K1 0 , add 9 K3 0 , allow 9 12.0.0.0/8", "commit 0 remove 7 , add 7 K3 0", "send 0 "+there, "rekey 0 7", "give 7", "give 9", "give 10", "boot 0 2 64")
	for _, left := range []int{3, 0} {
		for _, act := range acts {
			for _, kind := range []int{api.FaultPower, api.FaultIO} {
				for k := 1; refusedAt(t, met, left, act, k, kind); k++ {
				}
			}
		}
	}
	met.want(t, 20, "found 0 of 2", "found 1 of 2", "sent 1", "sent 2", "sent 3", "taken 1", "taken 2", "taken 3")
	met.want(t, 4, "refused 1", "refused 2", "refused 3", "refused 5", "a boot refused", "a boot refused at its end")
}

// refusedAt lets the k-th operation of a step behind a scene meet a fault, and goes on behind that in all ways; false, if the step has fewer operations.
func refusedAt(t *testing.T, met tally, left int, act api.Op, k, kind int) bool {
	t.Helper()
	made := func() *watch {
		x := scene(t, met, left)
		if act.Kind == api.OpBoot {
			x.do(api.Op{Kind: api.OpCrash})
		}
		x.do(api.Op{Kind: api.OpArm, Faults: []api.Fault{{At: k, Kind: kind}}})
		return x
	}
	x := made()
	switch l := x.do(act); {
	case l[0].Kind != api.EvRefused && x.w.Step(api.Op{Kind: api.OpLook})[0].M < k:
		return false
	case l[0].Kind != api.EvRefused && k == 1: // it has no operation at all
		x.fail("%s commits nothing: %s", brief(act), linesOf(l))
	case l[0].Kind == api.EvRefused && l[0].Code != api.ErrDevice:
		x.fail("%s: %s", brief(act), linesOf(l))
	}
	pend := len(x.p.devices[0].Pending())
	if kind == api.FaultIO {
		x.do(steps(t, "boot 0 3 64")[0])
		x.goesOn()
	}
	for _, keep := range survivors(pend) {
		y := made()
		y.do(act)
		y.do(api.Op{Kind: api.OpCrash, Keep: keep})
		y.do(steps(t, "boot 0 3 64")[0])
		y.goesOn()
	}
	return true
}

// settle brings a world, whatever has been, to where P0.9 and P0.10 begin: both nodes up, nothing armed, nothing under way, matching peers of the link 7; it answers their key.
func (x *watch) settle(s sampler) []byte {
	x.t.Helper()
	for a := range 2 {
		x.do(api.Op{Kind: api.OpCrash, A: a, Keep: s.keep()})
		l := x.do(api.Op{Kind: api.OpBoot, A: a, Params: api.Params{Block: pick(s, 1, 2, 5, 1000), Width: pick(s, 64, 128)}})
		if l[0].Kind != api.EvUp {
			x.fail("a boot to which nothing is refused: %s", linesOf(l))
		}
	}
	for _, f := range x.w.Under() {
		x.do(api.Op{Kind: api.OpDrop, K: f.No})
	}
	for _, k := range watched() {
		if x.match(k) {
			return k
		}
	}
	x.fail("no key does for the link 7")
	return nil
}

// match gives the link 7 a key at both nodes; false, if the lanes of the two do not let that be, or have hardly a generation or a stamp left.
func (x *watch) match(k []byte) bool {
	x.t.Helper()
	var states [2]state
	var side [2]int
	had := 0
	for a := range 2 {
		states[a], _ = stateOf(x.w, a)
		side[a] = a
		l, there := states[a].lane(k)
		if !there {
			continue
		}
		if had++; l.Cur > maxGen-1000 || l.Next > maxGen-1000 || l.Seen.Sec > 1<<40 {
			return false
		}
		side[a] = l.Side
		if had == 1 {
			side[1-a] = 1 - l.Side
		}
		if a == 1 && had == 1 {
			side[0] = 1 - l.Side
		}
	}
	if side[0] == side[1] {
		return false
	}
	for a := range 2 {
		if l := x.do(commitOf(a, matching(states[a], a, k, side[a])...)); l[0].Kind != api.EvDone {
			x.fail("no matching peers: %s", linesOf(l))
		}
	}
	return true
}

// matching are the changes that give the link 7 a key and what lies behind the other node.
func matching(l state, a int, k []byte, side int) []api.Change {
	behind := pre(fmt.Sprintf("10.%d.0.0/16", 1-a))
	var out []api.Change
	for _, p := range l.peers() {
		if p.Link == 7 || string(p.Key) == string(k) {
			out = append(out, api.Change{Kind: api.ChRemove, Link: p.Link})
		} else if slices.Contains(p.Prefixes, behind) {
			out = append(out, api.Change{Kind: api.ChDeny, Link: p.Link, Prefix: behind})
		}
	}
	return append(out, api.Change{Kind: api.ChAdd, Link: 7, Key: k, Side: side}, api.Change{Kind: api.ChAllow, Link: 7, Prefix: behind})
}

// opens: P0.10: Rekeys at a node, each begun when the one ahead has ended, till one ends in Opened.
func (x *watch) opens(s sampler, a int, k []byte) {
	x.t.Helper()
	own, _ := stateOf(x.w, a)
	other, _ := stateOf(x.w, 1-a)
	mine, _ := own.lane(k)
	its, _ := other.lane(k)
	most := 1 + max(0, its.Cur-max(mine.Cur, mine.Next))
	x.do(api.Op{Kind: api.OpTick, A: a, Stamp: stampOf(its.Seen.Sec+1+s.IntN(3), its.Seen.Nano)})
	for count := 1; ; count++ {
		init := x.do(api.Op{Kind: api.OpRekey, A: a, Link: 7})[0]
		h, _ := readHead(x.flight(init.K).Data)
		answer := x.do(give(init.K))[0]
		if (answer.Kind == api.EvSent) != (h.Gen > its.Cur) {
			x.fail("P0.10: an init of the generation %d: %s, the other one's Cur being %d", h.Gen, plainShow(answer), its.Cur)
		}
		if answer.Kind == api.EvSent {
			if l := x.do(give(answer.K)); linesOf(l) != fmt.Sprintf("opened %d 7", a) {
				x.fail("P0.10: %s", linesOf(l))
			}
			x.met[fmt.Sprint("opened behind ", min(count, 3))]++
			return
		}
		if count == most {
			x.fail("P0.10: not opened behind %d Rekeys", count)
		}
	}
}

// flow is what P0.9 asks of what is sent while nothing fails.
type flow struct {
	*watch
	queues [2][]int // what each node has emitted and is not given yet
	rekey  int      // the init or the reply of the Rekey that has not ended, or 0
	want   [2][]string
	got    [2][]string // by the node that has sent it
	states [2]state
}

// emits: what was emitted has its place behind all ahead.
func (x *flow) emits(l []api.Event) {
	if e := l[0]; e.Kind == api.EvSent {
		if e.K == 0 {
			x.fail("something is lost at once")
		}
		x.queues[e.A] = append(x.queues[e.A], e.K)
	}
}

func (x *flow) sends(s sampler, a int) {
	payload := pay(s.address(a, true), s.address(1-a, true), fmt.Sprint(len(x.past)))
	l := x.do(sendOf(a, payload))
	x.emits(l)
	if l[0].Kind == api.EvSent && l[0].Link == 7 && x.states[1-a].longest(sourceOf(payload)) == 7 {
		x.want[a] = append(x.want[a], string(payload))
	}
}

func (x *flow) begins(s sampler, a int) {
	if x.rekey != 0 {
		return
	}
	if s.once(2) {
		x.do(api.Op{Kind: api.OpTick, A: a, Stamp: stampOf(s.IntN(60), 0)})
	}
	l := x.do(api.Op{Kind: api.OpRekey, A: a, Link: 7})
	x.emits(l)
	x.rekey = l[0].K
}

// givesNext gives the next one of what a node has emitted.
func (x *flow) givesNext(a int) {
	if len(x.queues[a]) == 0 {
		return
	}
	no := x.queues[a][0]
	x.queues[a] = x.queues[a][1:]
	l := x.do(give(no))
	x.emits(l)
	if l[0].Kind == api.EvDelivered && l[0].Link == 7 {
		x.got[a] = append(x.got[a], string(l[0].Data))
	}
	if no == x.rekey {
		x.rekey = 0
		if l[0].Kind == api.EvSent {
			x.rekey = l[0].K // it ends when the reply is given
		}
		if l[0].Kind == api.EvOpened {
			x.met["opened in a flow"]++
		}
	}
}

// P23.10, P0.9 and P0.10: behind any history, from a moment on at which nothing fails any more: an opening comes about, and behind it all that is sent is delivered once, unchanged, in order, while generations change.
func TestFlows(t *testing.T) {
	t.Parallel()
	met := tally{}
	sent := 0
	for seed := range 60 {
		s := newSampler(uint64(5000 + seed))
		w := newWatch(t, pick(s, 32, 40, 64))
		w.met = met
		for _, op := range s.first(t) {
			w.do(op)
		}
		for range s.IntN(120) {
			w.next(s)
		}
		for range 2 {
			k := w.settle(s)
			w.opens(s, s.IntN(2), k)
			x := &flow{watch: w}
			for a := range 2 {
				x.states[a], _ = stateOf(w.w, a)
			}
			for range 90 {
				a := s.IntN(2)
				switch s.IntN(8) {
				case 0, 1, 2:
					x.sends(s, a)
				case 3:
					x.begins(s, a)
				default:
					x.givesNext(a)
				}
			}
			for len(x.queues[0])+len(x.queues[1]) > 0 {
				x.givesNext(s.IntN(2))
			}
			for a := range 2 {
				if !slices.Equal(x.got[a], x.want[a]) {
					x.fail("P0.9: of node %d %d are delivered, %d were sent: %x, want %x", a, len(x.got[a]), len(x.want[a]), x.got[a], x.want[a])
				}
				sent += len(x.want[a])
			}
		}
	}
	if sent < 1500 {
		t.Errorf("only %d were sent", sent)
	}
	met.want(t, 3, "opened behind 1", "opened behind 2", "opened behind 3")
	met.want(t, 100, "opened in a flow")
}
