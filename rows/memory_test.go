package rows_test

import (
	"bytes"
	"encoding/binary"
	"slices"
	"testing"
	"unsafe"

	"culvert/api"
	"culvert/rows"
)

// watch knows the lists that a call is handed, each in the middle of a longer one: whether they, and what lies around them, are as they were.
type watch struct {
	unchanged []func() bool
	overwrite []func()
}

// roomy is a copy of a list in the middle of a longer one that is watched.
func roomy[T any](w *watch, list []T, around, other T, same func(a, b T) bool) []T {
	const wide = 20
	room := slices.Repeat([]T{around}, wide)
	all := slices.Concat(room, list, room)
	was := slices.Clone(all)
	w.unchanged = append(w.unchanged, func() bool { return slices.EqualFunc(all, was, same) })
	w.overwrite = append(w.overwrite, func() {
		for i := range all {
			all[i], was[i] = other, other
		}
	})
	return all[wide : wide+len(list)]
}

// lies: two lists are the same memory, spare room too.
func lies[T any](a, b []T) bool {
	return len(a) == len(b) && cap(a) == cap(b) && unsafe.SliceData(a) == unsafe.SliceData(b)
}

func (w *watch) bytes(b []byte) []byte {
	return roomy(w, b, 0x77, 0xEE, func(a, b byte) bool { return a == b })
}

func (w *watch) prefixes(l []api.Prefix) []api.Prefix {
	return roomy(w, l, pre("99.0.0.0/8"), pre("88.0.0.0/8"), func(a, b api.Prefix) bool { return a == b })
}

func (w *watch) peer(p api.Peer) api.Peer {
	return api.Peer{Link: p.Link, Key: w.bytes(p.Key), Prefixes: w.prefixes(p.Prefixes)}
}

func (w *watch) lane(l api.Lane) api.Lane {
	l.Key = w.bytes(l.Key)
	return l
}

func (w *watch) row(r api.Row) api.Row {
	return api.Row{Key: w.bytes(r.Key), Value: w.bytes(r.Value)}
}

func (w *watch) peers(l []api.Peer) []api.Peer {
	var out []api.Peer
	for _, p := range l {
		out = append(out, w.peer(p))
	}
	return roomy(w, out, peer(98, key(98)), peer(97, key(97)), func(a, b api.Peer) bool {
		return a.Link == b.Link && lies(a.Key, b.Key) && lies(a.Prefixes, b.Prefixes)
	})
}

func (w *watch) lanes(l []api.Lane) []api.Lane {
	var out []api.Lane
	for _, one := range l {
		out = append(out, w.lane(one))
	}
	return roomy(w, out, lane(key(98), 98), lane(key(97), 97), func(a, b api.Lane) bool { return sameLane(a, b) && lies(a.Key, b.Key) })
}

func (w *watch) rows(l []api.Row) []api.Row {
	var out []api.Row
	for _, r := range l {
		out = append(out, w.row(r))
	}
	return roomy(w, out, bootsRow(98), bootsRow(97), func(a, b api.Row) bool { return lies(a.Key, b.Key) && lies(a.Value, b.Value) })
}

func (w *watch) wantUnchanged(t *testing.T, what string) {
	t.Helper()
	for i, unchanged := range w.unchanged {
		if !unchanged() {
			t.Errorf("%s: the list %d that was handed in, or what lies around it, has changed", what, i)
		}
	}
}

func (w *watch) writeOver() {
	for _, over := range w.overwrite {
		over()
	}
}

// answer is all lists that a call hands out.
type answer struct {
	bytes    [][]byte
	prefixes [][]api.Prefix
	peers    [][]api.Peer
	lanes    [][]api.Lane
	sets     [][]api.Set
}

func ofRow(r api.Row) answer { return answer{bytes: [][]byte{r.Key, r.Value}} }

func ofPeer(p api.Peer) answer {
	return answer{bytes: [][]byte{p.Key}, prefixes: [][]api.Prefix{p.Prefixes}}
}

func ofLane(l api.Lane) answer { return answer{bytes: [][]byte{l.Key}} }

func ofState(s state) answer {
	out := answer{peers: [][]api.Peer{s.peers}, lanes: [][]api.Lane{s.lanes}}
	for _, p := range s.peers {
		out = out.and(ofPeer(p))
	}
	for _, l := range s.lanes {
		out = out.and(ofLane(l))
	}
	return out
}

func ofSets(l []api.Set) answer {
	out := answer{sets: [][]api.Set{l}}
	for _, s := range l {
		out.bytes = append(out.bytes, s.Key, s.Value)
	}
	return out
}

func (a answer) and(b answer) answer {
	return answer{
		slices.Concat(a.bytes, b.bytes), slices.Concat(a.prefixes, b.prefixes),
		slices.Concat(a.peers, b.peers), slices.Concat(a.lanes, b.lanes), slices.Concat(a.sets, b.sets),
	}
}

// all does the same to the lists of each kind.
func (a answer) all(bytes func([]byte) []byte, prefixes func([]api.Prefix) []api.Prefix, peers func([]api.Peer) []api.Peer, lanes func([]api.Lane) []api.Lane, sets func([]api.Set) []api.Set) answer {
	return answer{each(a.bytes, bytes), each(a.prefixes, prefixes), each(a.peers, peers), each(a.lanes, lanes), each(a.sets, sets)}
}

func each[T any](l [][]T, do func([]T) []T) [][]T {
	var out [][]T
	for _, one := range l {
		out = append(out, do(one))
	}
	return out
}

func (a answer) clone() answer {
	return a.all(bytes.Clone, slices.Clone, clonePeers, cloneLanes, cloneSets)
}

func clonePeers(l []api.Peer) []api.Peer {
	out := slices.Clone(l)
	for i, p := range l {
		out[i].Key, out[i].Prefixes = bytes.Clone(p.Key), slices.Clone(p.Prefixes)
	}
	return out
}

func cloneLanes(l []api.Lane) []api.Lane {
	out := slices.Clone(l)
	for i, one := range l {
		out[i].Key = bytes.Clone(one.Key)
	}
	return out
}

func cloneSets(l []api.Set) []api.Set {
	out := slices.Clone(l)
	for i, s := range l {
		out[i].Key, out[i].Value = bytes.Clone(s.Key), bytes.Clone(s.Value)
	}
	return out
}

func wantAnswer(t *testing.T, what string, got, want answer) {
	t.Helper()
	wantLists(t, what+": bytes", got.bytes, want.bytes, func(a, b byte) bool { return a == b })
	wantLists(t, what+": prefixes", got.prefixes, want.prefixes, func(a, b api.Prefix) bool { return a == b })
	wantLists(t, what+": peers", got.peers, want.peers, samePeer)
	wantLists(t, what+": lanes", got.lanes, want.lanes, sameLane)
	wantLists(t, what+": sets", got.sets, want.sets, sameSet)
}

func wantLists[T any](t *testing.T, what string, got, want [][]T, same func(a, b T) bool) {
	t.Helper()
	if len(got) != len(want) {
		t.Fatalf("%s: %d lists, want %d", what, len(got), len(want))
	}
	for i := range got {
		if !slices.EqualFunc(got[i], want[i], same) {
			t.Errorf("%s: the list %d is %.300v, want %.300v", what, i, got[i], want[i])
		}
	}
}

// filled writes over all that a caller may write over, the spare room too.
func filled[T any](l []T, one T) []T {
	whole := l[:cap(l)]
	for i := range whole {
		whole[i] = one
	}
	return l
}

func (a answer) spoil() {
	a.all(
		func(b []byte) []byte { return filled(b, 0xDD) },
		func(l []api.Prefix) []api.Prefix { return filled(l, pre("66.0.0.0/8")) },
		func(l []api.Peer) []api.Peer { return filled(l, peer(66, key(66))) },
		func(l []api.Lane) []api.Lane { return filled(l, lane(key(66), 66)) },
		func(l []api.Set) []api.Set { return filled(l, api.Set{Key: key(66)}) })
}

// call is a call with lists that are made anew at each run, and watched.
type call struct {
	name string
	run  func(w *watch) answer
}

func peerCalls(p api.Peer) []call {
	out := []call{{"PutPeer", func(w *watch) answer {
		r, _ := rows.PutPeer(w.peer(p))
		return ofRow(r)
	}}}
	if r, ok := plainPutPeer(p); ok {
		out = append(out, rowCalls(r)...)
	}
	return out
}

func laneCalls(l api.Lane) []call {
	out := []call{{"PutLane", func(w *watch) answer {
		r, _ := rows.PutLane(w.lane(l))
		return ofRow(r)
	}}}
	if r, ok := plainPutLane(l); ok {
		out = append(out, rowCalls(r)...)
	}
	return out
}

func rowCalls(r api.Row) []call {
	return []call{
		{"GetPeer", func(w *watch) answer {
			p, _ := rows.GetPeer(w.row(r))
			return ofPeer(p)
		}},
		{"GetLane", func(w *watch) answer {
			l, _ := rows.GetLane(w.row(r))
			return ofLane(l)
		}},
		{"GetBoots", func(w *watch) answer {
			rows.GetBoots(w.row(r))
			return answer{}
		}},
	}
}

func stateCall(l []api.Row) call {
	return call{"State", func(w *watch) answer {
		s, _ := stateOf(w.rows(l))
		return ofState(s)
	}}
}

func setsCall(was, is state) call {
	return call{"Sets", func(w *watch) answer {
		l, _ := rows.Sets(w.peers(was.peers), w.peers(is.peers), w.lanes(was.lanes), w.lanes(is.lanes))
		return ofSets(l)
	}}
}

// calls are of all kinds, those that are refused too.
func calls() []call {
	var out []call
	for _, p := range append(somePeers(), peer(0, key(1)), peer(1, key(1)[:31]), peer(1, key(1), pres("11.0.0.0/8", "10.0.0.0/8")...), peer(1, key(1), rising4(1, 17)...)) {
		out = append(out, peerCalls(p)...)
	}
	for _, l := range append(someLanes(), api.Lane{Key: key(1)}, lane(key(1)[:31], 1)) {
		out = append(out, laneCalls(l)...)
	}
	for _, n := range someBoots() {
		out = append(out, rowCalls(bootsRow(uint64(n)))...)
		out = append(out, call{"PutBoots", func(*watch) answer {
			r, _ := rows.PutBoots(n)
			return ofRow(r)
		}})
	}
	for _, r := range []api.Row{{}, {Key: []byte("B")}, peerRow(1, key(1), 3, laid(rising4(1, 2))...), laneRow(key(1), 2, 1, 0, 0, 0, 0, 0)} {
		out = append(out, rowCalls(r)...)
	}
	was, is, _ := mixed()
	most := full(16, 32)
	for _, s := range []state{{}, small(), most, full(17, 32)} {
		out = append(out, stateCall(s.rows()), stateCall(s.with(api.Row{Key: []byte("X")})))
		out = append(out, setsCall(state{}, s), setsCall(s, state{}), setsCall(s, s), setsCall(s, was), setsCall(is, s))
	}
	wrong := most
	wrong.peers = append(slices.Clone(most.peers), peer(1, key(1)))
	return append(out, setsCall(was, is), setsCall(wrong, is), setsCall(is, wrong))
}

// P0.3, P15.1 to P15.5: what is handed in is as it was, its spare room too, and is not kept: written over behind the call it changes nothing that was answered, and the other way round.
func TestHandedIn(t *testing.T) {
	for _, c := range calls() {
		w := &watch{}
		a := c.run(w)
		w.wantUnchanged(t, c.name)
		want := a.clone()
		w.writeOver()
		wantAnswer(t, c.name+", what was handed in written over", a, want)
		a.spoil()
		w.wantUnchanged(t, c.name+", what was answered written over")
		wantAnswer(t, c.name+", again", c.run(&watch{}), want)
	}
}

// P0.3: what was answered is written over, its spare room too, without a change of what is answered next, or was answered ahead.
func TestAnswersWrittenOver(t *testing.T) {
	for _, c := range calls() {
		w := &watch{}
		elder := c.run(w)
		want := elder.clone()
		for range 3 {
			c.run(w).spoil()
			wantAnswer(t, c.name+", an elder answer", elder, want)
		}
		elder.spoil()
		wantAnswer(t, c.name+", a new answer", c.run(w), want)
	}
}

// P0.3: no two lists share anything, of one answer or of two, spare room too.
func TestAnswersApart(t *testing.T) {
	var all answer
	for range 2 {
		for _, c := range calls() {
			all = all.and(c.run(&watch{}))
		}
	}
	const marks = 251 // a byte can't tell all lists: their numbers are marked by two digits, one behind the other
	if len(all.bytes) < 500 || len(all.bytes) > marks*marks {
		t.Fatalf("%d lists", len(all.bytes))
	}
	wantApart(t, "bytes", all.bytes, func(k int) byte { return byte(k % marks) }, func(a, b byte) bool { return a == b })
	wantApart(t, "bytes", all.bytes, func(k int) byte { return byte(k / marks) }, func(a, b byte) bool { return a == b })
	wantApart(t, "prefixes", all.prefixes, func(k int) api.Prefix { return api.Prefix{Bits: k} }, func(a, b api.Prefix) bool { return a == b })
	wantApart(t, "peers", all.peers, func(k int) api.Peer { return api.Peer{Link: k} }, samePeer)
	wantApart(t, "lanes", all.lanes, func(k int) api.Lane { return api.Lane{Cur: k} }, sameLane)
	wantApart(t, "sets", all.sets, func(k int) api.Set { return api.Set{Key: binary.BigEndian.AppendUint32(nil, uint32(k))} }, sameSet)
}

func wantApart[T any](t *testing.T, what string, lists [][]T, mark func(int) T, same func(a, b T) bool) {
	t.Helper()
	for k, l := range lists {
		filled(l, mark(k))
	}
	for k, l := range lists {
		if slices.ContainsFunc(l[:cap(l)], func(x T) bool { return !same(x, mark(k)) }) {
			t.Errorf("%s: the list %d shows what was written into another one", what, k)
		}
	}
}

// P0.3: what was answered is grown without a change of anything else.
func TestAnswersGrown(t *testing.T) {
	const more = 40
	for _, c := range calls() {
		w := &watch{}
		one, two := c.run(w), c.run(w)
		want := two.clone()
		grown := one
		for range more { // one by one, so that the spare room is used where there is some
			grown = grown.all(
				func(b []byte) []byte { return append(b, 0x66) },
				func(l []api.Prefix) []api.Prefix { return append(l, pre("66.0.0.0/8")) },
				func(l []api.Peer) []api.Peer { return append(l, peer(66, key(66))) },
				func(l []api.Lane) []api.Lane { return append(l, lane(key(66), 66)) },
				func(l []api.Set) []api.Set { return append(l, api.Set{Key: key(66)}) })
		}
		wantAnswer(t, c.name+", another answer grown", two, want)
		wantAnswer(t, c.name+", all grown, their beginnings", one, want)
		w.wantUnchanged(t, c.name+", its answer grown")
		wantAnswer(t, c.name+", grown", grown.all(cut[byte](more), cut[api.Prefix](more), cut[api.Peer](more), cut[api.Lane](more), cut[api.Set](more)), want)
	}
}

// cut takes the last n off a list.
func cut[T any](n int) func([]T) []T {
	return func(l []T) []T { return l[:len(l)-n] }
}

// P0.3: lists that are handed in may share memory with one another.
func TestSharedLists(t *testing.T) {
	one := key(1)
	l := []api.Peer{peer(1, one, rising4(1, 3)...), peer(2, one, rising4(1, 3)[:2]...), peer(3, one)}
	m := []api.Lane{lane(one, 1)}
	wantSets(t, "the old list is a piece of the new one", state{l[:2], m[:0], 0}, state{l, m, 0})
	wantSets(t, "the new list is a piece of the old one", state{l, m, 0}, state{l[1:], m[1:], 0})
	wantSetsJust(t, "one list twice", state{l, m, 0}, state{l, m, 0})
	value := counted(1, 33)
	value[32] = 0
	shared := []api.Row{{Key: []byte{'P', 0, 0, 0, 1}, Value: value}, {Key: append([]byte{'L'}, value[:32]...), Value: putLane(m[0]).Value}}
	s, e := stateOf(shared)
	if e != api.OK || len(s.peers) != 1 || len(s.lanes) != 1 {
		t.Fatalf("State = %v, %d", s, e)
	}
	filled(s.peers[0].Key, 0)
	if !bytes.Equal(s.lanes[0].Key, counted(1, 32)) || !bytes.Equal(value[:32], counted(1, 32)) {
		t.Errorf("a peer's key and its lane's are one list")
	}
}
