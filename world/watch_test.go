package world_test

import (
	"fmt"
	"net/netip"
	"slices"
	"testing"

	"culvert/api"
	"culvert/world"
)

// triple is a counter of a generation, of a side of a key, as a node has met it.
type triple struct {
	node    int
	key     string
	side    int
	gen     int
	counter uint64
}

// owned is a key as a node has it.
type owned struct {
	node int
	key  string
}

// state is what a look tells of a node's peers and lanes.
type state []api.Event

// watch is a world that is held to P0.6 to P0.8 by its history alone: by what its steps tell, what is under way, and looks. (The plain form beside it only helps to choose the next step.)
type watch struct {
	*trial
	p         *plain
	used      map[triple]int // at which step
	sides     map[owned]int
	delivered map[triple]int
	stamps    map[owned]api.Stamp // of the last init that was answered
	dead      map[triple]uint64   // of a node, key and generation: below that nothing is taken any more
	curs      [2]map[string][]int // which generations have been Cur in this life
	may       [2][]state          // what a Boot may find
	came      []api.Flight        // all that was ever given
	met       tally
}

func newWatch(t *testing.T, sectors int) *watch {
	t.Helper()
	return &watch{trial: begin(t, sectors), p: newPlain(sectors), used: map[triple]int{}, sides: map[owned]int{}, delivered: map[triple]int{},
		stamps: map[owned]api.Stamp{}, dead: map[triple]uint64{}, may: [2][]state{{nil}, {nil}}, met: tally{}}
}

// watched are the keys that scripts have.
func watched() [][]byte { return [][]byte{key(1), key(2), key(3), key(4), key(9)} }

// openedBy is which key and side have sealed a packet; false, if none has.
func openedBy(b []byte) (k []byte, side int, text []byte, ok bool) {
	for _, k := range watched() {
		for side := range 2 {
			if text, ok := opened(k, side, b); ok {
				return k, side, text, true
			}
		}
	}
	return nil, 0, nil, false
}

// stateOf looks at a node: its peers and lanes, and whether it is up.
func stateOf(w *world.World, a int) (state, bool) {
	l := w.Step(api.Op{Kind: api.OpLook, A: a})
	up := l[0].K == 1
	return slices.DeleteFunc(l, func(e api.Event) bool { return e.Kind != api.EvPeer && e.Kind != api.EvLane }), up
}

func (l state) lane(k []byte) (api.Lane, bool) {
	for _, e := range l {
		if e.Kind == api.EvLane && string(e.Lane.Key) == string(k) {
			return e.Lane, true
		}
	}
	return api.Lane{}, false
}

func (l state) peers() []api.Peer {
	var out []api.Peer
	for _, e := range l {
		if e.Kind == api.EvPeer {
			out = append(out, e.Peer)
		}
	}
	return out
}

// longest is the link of the longest prefix that holds an address.
func (l state) longest(a netip.Addr) (link int) {
	bits := -1
	for _, p := range l.peers() {
		for _, x := range p.Prefixes {
			if y, _ := libraryPrefix(x); y.Contains(a) && y.Bits() > bits {
				link, bits = p.Link, y.Bits()
			}
		}
	}
	return link
}

// again is another world behind the steps so far, but for the last one.
func (x *watch) again() *world.World {
	return behind(len(x.w.Durable(0))/512, x.past[:len(x.past)-1])
}

// do does a step (no run: that is gives) and holds it to the promises.
func (x *watch) do(op api.Op) []api.Event {
	x.t.Helper()
	var f api.Flight
	a := op.A
	for _, g := range x.w.Under() {
		if op.Kind == api.OpGive && g.No == op.K {
			f, a = g, g.To
			x.came = append(x.came, g)
		}
	}
	if op.Kind == api.OpRun || a != 0 && a != 1 {
		x.p.step(op)
		return x.step(op)
	}
	before, was := stateOf(x.w, a)
	under := len(x.w.Under())
	l := x.step(op)
	x.p.step(op)
	if len(l) == 0 || op.Kind == api.OpLook {
		return l
	}
	behind, up := stateOf(x.w, a)
	e := l[0]
	x.met[fmt.Sprintf("step %d event %d", op.Kind, e.Kind)]++
	switch {
	case op.Kind == api.OpBoot:
		x.boots(a, e, behind)
		return l
	case e.Kind == api.EvRefused && e.Code == api.ErrDevice:
		x.met[fmt.Sprintf("refused %d", op.Kind)]++
		if now := len(x.w.Under()); now > under || up {
			x.fail("P0.6: %s: refused by the device, and something is sent, or the node is up", brief(op))
		}
		x.may[a] = []state{x.may[a][0], x.committing(a, op)}
		return l
	case e.Kind == api.EvRefused && was && !sameEvents(before, behind):
		x.fail("P0.8: %s: %s, and something has changed", brief(op), plainShow(e))
	}
	if up {
		x.may[a] = []state{behind}
		x.sees(a, behind)
	}
	x.judge(a, e, f)
	return l
}

// committing is the state that a refused step was committing: the same steps, but with nothing armed.
func (x *watch) committing(a int, op api.Op) state {
	x.t.Helper()
	w := x.again()
	w.Step(api.Op{Kind: api.OpArm, A: a})
	w.Step(op)
	l, up := stateOf(w, a)
	if !up {
		x.fail("%s is refused where nothing is armed", brief(op))
	}
	return l
}

// boots: P0.8: what a boot finds.
func (x *watch) boots(a int, e api.Event, found state) {
	x.t.Helper()
	if e.Kind != api.EvUp {
		if e.Code == api.ErrDevice {
			x.bootRefused(a)
		}
		return
	}
	at := slices.IndexFunc(x.may[a], func(l state) bool { return sameEvents(l, found) })
	if at < 0 {
		x.fail("P0.8: a boot finds %s, and may find %s", linesOf(found), linesOf(slices.Concat(x.may[a]...)))
	}
	x.met[fmt.Sprintf("found %d of %d", at, len(x.may[a]))]++
	x.may[a] = []state{found}
	x.curs[a] = map[string][]int{}
	x.sees(a, found)
	for _, e := range found {
		if e.Kind == api.EvLane {
			k := triple{node: a, key: string(e.Lane.Key), gen: e.Lane.Cur}
			x.dead[k] = max(x.dead[k], e.Lane.Ceil)
		}
	}
}

// bootRefused: where just the last operation of a boot was refused, the flush of its Open was done: what it has found stays.
func (x *watch) bootRefused(a int) {
	x.t.Helper()
	look := api.Op{Kind: api.OpLook, A: a}
	ahead := x.again().Step(look)[0].M
	w := x.again()
	if l := w.Step(api.Op{Kind: api.OpArm, A: a}); l[0].Kind == api.EvRefused { // its power was off
		return
	}
	if l := w.Step(x.past[len(x.past)-1]); l[0].Kind != api.EvUp {
		x.fail("a boot to which nothing is refused: %s", linesOf(l))
	}
	if w.Step(look)[0].M == x.w.Step(look)[0].M-ahead {
		found, _ := stateOf(w, a)
		x.may[a] = []state{found}
		x.met["a boot refused at its end"]++
		return
	}
	x.met["a boot refused"]++
}

// sees knows which generations are Cur.
func (x *watch) sees(a int, l state) {
	if x.curs[a] == nil {
		x.curs[a] = map[string][]int{}
	}
	for _, e := range l {
		if e.Kind == api.EvLane {
			x.curs[a][string(e.Lane.Key)] = append(x.curs[a][string(e.Lane.Key)], e.Lane.Cur)
		}
	}
}

// judge holds an event at a node to P0.6 and P0.7; f is what was given, if anything was.
func (x *watch) judge(a int, e api.Event, f api.Flight) {
	x.t.Helper()
	if e.Kind == api.EvSent && e.A >= 0 && e.K > 0 {
		x.answered(a, x.flight(e.K))
	}
	if f.No == 0 {
		return
	}
	switch e.Kind {
	case api.EvSent:
		_, text := x.taken(a, f, pkInit)
		k, _, _, _ := openedBy(f.Data)
		s := readStamp(text)
		if last, was := x.stamps[owned{a, string(k)}]; was && !less(last, s) {
			x.fail("P0.7: an init of %v is answered behind one of %v", s, last)
		}
		x.stamps[owned{a, string(k)}] = s
	case api.EvOpened:
		x.taken(a, f, pkReply)
	case api.EvDelivered:
		t, text := x.taken(a, f, pkData)
		if step, twice := x.delivered[t]; twice || string(text) != string(e.Data) {
			x.fail("P0.7: %+v is delivered, and was at the step %d", t, step)
		}
		x.delivered[t] = len(x.past)
		if !slices.Contains(x.curs[a][t.key], t.gen) {
			x.fail("P0.7: %+v is delivered, of a generation that has not been in force in this life", t)
		}
	}
}

// answered: P0.6 of what a node has sent.
func (x *watch) answered(a int, f api.Flight) {
	x.t.Helper()
	k, side, _, ok := openedBy(f.Data)
	h, _ := readHead(f.Data)
	if !ok || f.To != 1-a {
		x.fail("%x is sent to %d", f.Data, f.To)
	}
	if was, had := x.sides[owned{a, string(k)}]; had && was != side {
		x.fail("P0.6: the node %d seals by the side %d, and has by the other one", a, side)
	}
	x.sides[owned{a, string(k)}] = side
	t := triple{a, string(k), side, h.Gen, h.Counter}
	if step, twice := x.used[t]; twice {
		x.fail("P0.6: %+v was used at the step %d", t, step)
	}
	x.used[t] = len(x.past)
	x.met[fmt.Sprint("sent ", h.Type)]++
}

// taken: what a boot has found is behind it for ever.
func (x *watch) taken(a int, f api.Flight, kind int) (triple, []byte) {
	x.t.Helper()
	k, side, text, ok := openedBy(f.Data)
	h, _ := readHead(f.Data)
	if !ok || h.Type != kind {
		x.fail("%x is taken", f.Data)
	}
	if own, had := x.sides[owned{a, string(k)}]; had && own == side {
		x.fail("the node %d has taken what its own side has sealed", a)
	}
	if h.Counter < x.dead[triple{node: a, key: string(k), gen: h.Gen}] {
		x.fail("P0.7: %+v is taken, below the Ceil that a boot has found", h)
	}
	x.met[fmt.Sprint("taken ", kind)]++
	return triple{a, string(k), side, h.Gen, h.Counter}, text
}

// gives gives all that is under way.
func (x *watch) gives() {
	x.t.Helper()
	for _, op := range gives(x.w) {
		x.do(op)
	}
}

// late lets something come again that was given long ago.
func (x *watch) late(f api.Flight) {
	x.t.Helper()
	if l := x.do(junk(f.To, f.Data)); l[0].Kind == api.EvSent && l[0].K > 0 {
		x.do(give(l[0].K))
	}
}
