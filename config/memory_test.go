package config_test

import (
	"bytes"
	"slices"
	"testing"
	"unsafe"

	"culvert/api"
)

// watch knows the lists that a call is handed, each in the middle of a longer one: whether they, and what lies around them, are as they were.
type watch struct {
	unchanged []func() bool
	overwrite []func()
}

// roomy is a copy of a list in the middle of a longer one that is watched.
func roomy[T any](w *watch, list []T, around, other T, same func(a, b T) bool) []T {
	const wide = 20
	room := slices.Repeat([]T{around}, wide)
	all := slices.Concat(room, list, room)
	was := slices.Clone(all)
	w.unchanged = append(w.unchanged, func() bool { return slices.EqualFunc(all, was, same) })
	w.overwrite = append(w.overwrite, func() {
		for i := range all {
			all[i], was[i] = other, other
		}
	})
	return all[wide : wide+len(list)]
}

// lies: two lists are the same memory, spare room too.
func lies[T any](a, b []T) bool {
	return len(a) == len(b) && cap(a) == cap(b) && unsafe.SliceData(a) == unsafe.SliceData(b)
}

func equal[T comparable](a, b T) bool { return a == b }

func (w *watch) bytes(b []byte) []byte { return roomy(w, b, 0x77, 0xEE, equal) }

func (w *watch) peers(l []api.Peer) []api.Peer {
	var out []api.Peer
	for _, p := range l {
		prefixes := roomy(w, p.Prefixes, pre("99.0.0.0/8"), pre("88.0.0.0/8"), equal)
		out = append(out, api.Peer{Link: p.Link, Key: w.bytes(p.Key), Prefixes: prefixes})
	}
	return roomy(w, out, peer(98, key(98)), peer(97, key(97)), func(a, b api.Peer) bool {
		return a.Link == b.Link && lies(a.Key, b.Key) && lies(a.Prefixes, b.Prefixes)
	})
}

func (w *watch) lanes(l []api.Lane) []api.Lane {
	var out []api.Lane
	for _, one := range l {
		one.Key = w.bytes(one.Key)
		out = append(out, one)
	}
	return roomy(w, out, lane(key(98), 0, 98, 98), lane(key(97), 1, 97, 97), func(a, b api.Lane) bool { return sameLane(a, b) && lies(a.Key, b.Key) })
}

func (w *watch) changes(l []api.Change) []api.Change {
	var out []api.Change
	for _, c := range l {
		c.Key = w.bytes(c.Key)
		out = append(out, c)
	}
	return roomy(w, out, add(98, key(98), 0), remove(97), func(a, b api.Change) bool {
		return a.Kind == b.Kind && a.Link == b.Link && a.Side == b.Side && a.Prefix == b.Prefix && lies(a.Key, b.Key)
	})
}

func (w *watch) wantUnchanged(t *testing.T, what string) {
	t.Helper()
	for i, unchanged := range w.unchanged {
		if !unchanged() {
			t.Errorf("%s: the list %d that was handed in, or what lies around it, has changed", what, i)
		}
	}
}

func (w *watch) writeOver() {
	for _, over := range w.overwrite {
		over()
	}
}

// answer is all lists that a call hands out.
type answer struct {
	bytes    [][]byte
	prefixes [][]api.Prefix
	peers    [][]api.Peer
	lanes    [][]api.Lane
}

func answerOf(c conf) answer {
	out := answer{peers: [][]api.Peer{c.peers}, lanes: [][]api.Lane{c.lanes}}
	for _, p := range c.peers {
		out.bytes, out.prefixes = append(out.bytes, p.Key), append(out.prefixes, p.Prefixes)
	}
	for _, l := range c.lanes {
		out.bytes = append(out.bytes, l.Key)
	}
	return out
}

func (a answer) and(b answer) answer {
	return answer{slices.Concat(a.bytes, b.bytes), slices.Concat(a.prefixes, b.prefixes), slices.Concat(a.peers, b.peers), slices.Concat(a.lanes, b.lanes)}
}

func each[T any](l [][]T, do func([]T) []T) [][]T {
	var out [][]T
	for _, one := range l {
		out = append(out, do(one))
	}
	return out
}

func clonePeers(l []api.Peer) []api.Peer {
	out := slices.Clone(l)
	for i, p := range l {
		out[i].Key, out[i].Prefixes = bytes.Clone(p.Key), slices.Clone(p.Prefixes)
	}
	return out
}

func cloneLanes(l []api.Lane) []api.Lane {
	out := slices.Clone(l)
	for i, one := range l {
		out[i].Key = bytes.Clone(one.Key)
	}
	return out
}

func (a answer) clone() answer {
	return answer{each(a.bytes, bytes.Clone), each(a.prefixes, slices.Clone), each(a.peers, clonePeers), each(a.lanes, cloneLanes)}
}

// filled writes over a list and its spare room.
func filled[T any](l []T, x T) {
	l = l[:cap(l)]
	for i := range l {
		l[i] = x
	}
}

// spoil writes over all of it.
func (a answer) spoil() {
	for _, b := range a.bytes {
		filled(b, 0x55)
	}
	for _, l := range a.prefixes {
		filled(l, pre("55.0.0.0/8"))
	}
	for _, l := range a.peers {
		filled(l, peer(55, key(55)))
	}
	for _, l := range a.lanes {
		filled(l, lane(key(55), 0, 55, 55))
	}
}

func wantLists[T any](t *testing.T, what string, got, want [][]T, same func(a, b T) bool) {
	t.Helper()
	if !slices.EqualFunc(got, want, func(a, b []T) bool { return slices.EqualFunc(a, b, same) }) {
		t.Errorf("%s: %.600v, want %.600v", what, got, want)
	}
}

func wantAnswer(t *testing.T, what string, got, want answer) {
	t.Helper()
	wantLists(t, what+": bytes", got.bytes, want.bytes, equal)
	wantLists(t, what+": prefixes", got.prefixes, want.prefixes, equal)
	wantLists(t, what+": peers", got.peers, want.peers, samePeer)
	wantLists(t, what+": lanes", got.lanes, want.lanes, sameLane)
}

// call is a call of Judge.
type call struct {
	what string
	was  conf
	list []api.Change
}

// run is the call, of lists that are watched.
func (c call) run(w *watch) answer {
	got, _, _ := judge(conf{w.peers(c.was.peers), w.lanes(c.was.lanes)}, w.changes(c.list)...)
	return answerOf(got)
}

// calls are of each kind of change, at the first, at the last and at a place between, with faults and without, of small and of full lists.
func calls() []call {
	p := pre("11.0.0.0/8")
	out := []call{
		{"the first peer", conf{}, []api.Change{add(7, key(1), 0)}},
		{"removed, the first", small(), []api.Change{remove(3)}},
		{"removed, the last", small(), []api.Change{remove(maxLink)}},
		{"removed, all", small(), []api.Change{remove(7), remove(3), remove(maxLink)}},
		{"added ahead of all", small(), []api.Change{add(1, key(0), 0)}},
		{"added behind some", small(), []api.Change{add(8, key(50), 1)}},
		{"added, a lane's key", small(), []api.Change{add(5, key(4), 0)}},
		{"set to a new key", small(), []api.Change{setKey(7, key(50), 1)}},
		{"set to a lane's key", small(), []api.Change{setKey(7, key(4), 0)}},
		{"set to its own key", small(), []api.Change{setKey(3, key(2), 1)}},
		{"allowed, the first", small(), []api.Change{allow(maxLink, p)}},
		{"allowed, between", small(), []api.Change{allow(3, p)}},
		{"denied", small(), []api.Change{deny(7, many(7, 15)[4])}},
		{"denied, all", small(), []api.Change{deny(3, pre("10.0.0.0/8")), deny(3, pre("fd00::/8"))}},
		{"removed and added again", small(), []api.Change{remove(7), add(7, key(1), 0), allow(7, p), add(8, key(8), 0)}},
		{"a prefix handed over", small(), []api.Change{deny(3, pre("10.0.0.0/8")), allow(maxLink, pre("10.0.0.0/8")), remove(3)}},
		{"a fault", small(), []api.Change{remove(3), add(8, key(50), 1), remove(3)}},
		{"no change", small(), nil},
		{"full lists", grown(16, 31), []api.Change{remove(7), add(9, key(400), 0), allow(9, p), setKey(9, key(5), 1)}},
		{"full lists, a fault", grown(16, 32), []api.Change{remove(7), allow(3, p), add(9, key(400), 0)}},
	}
	s := newSampler(5)
	for len(out) < 60 {
		was := s.conf()
		now := was
		var l []api.Change
		for range 1 + s.IntN(20) {
			if c, is, ok := live(s, now); ok {
				l, now = append(l, c), is
			}
		}
		out = append(out, call{"any", was, l})
	}
	return out
}

// P0.3, P16.4: what is handed in is as it was, its spare room too, and is not kept: written over behind the call it changes nothing that was answered, and the other way round.
func TestHandedIn(t *testing.T) {
	for _, c := range calls() {
		w := &watch{}
		a := c.run(w)
		w.wantUnchanged(t, c.what)
		want := a.clone()
		w.writeOver()
		wantAnswer(t, c.what+", what was handed in written over", a, want)
		a.spoil()
		w.wantUnchanged(t, c.what+", what was answered written over")
		wantAnswer(t, c.what+", again", c.run(&watch{}), want)
	}
}

// P0.3, P16.4: what was answered is written over, its spare room too, without a change of what is answered next, or was answered ahead.
func TestAnswersWrittenOver(t *testing.T) {
	for _, c := range calls() {
		w := &watch{}
		elder := c.run(w)
		want := elder.clone()
		for range 3 {
			c.run(w).spoil()
			wantAnswer(t, c.what+", an elder answer", elder, want)
		}
		elder.spoil()
		wantAnswer(t, c.what+", a new answer", c.run(w), want)
	}
}

// P0.3, P16.4: no two lists share anything, of one answer or of two, spare room too.
func TestAnswersApart(t *testing.T) {
	var all answer
	for range 2 {
		for _, c := range calls() {
			all = all.and(c.run(&watch{}))
		}
	}
	const marks = 251 // a byte can't tell all lists: their numbers are marked by two digits, one behind the other
	if len(all.bytes) < 1000 || len(all.bytes) > marks*marks {
		t.Fatalf("%d lists", len(all.bytes))
	}
	wantApart(t, "bytes", all.bytes, func(k int) byte { return byte(k % marks) }, equal)
	wantApart(t, "bytes", all.bytes, func(k int) byte { return byte(k / marks) }, equal)
	wantApart(t, "prefixes", all.prefixes, func(k int) api.Prefix { return api.Prefix{Bits: k} }, equal)
	wantApart(t, "peers", all.peers, func(k int) api.Peer { return api.Peer{Link: k} }, samePeer)
	wantApart(t, "lanes", all.lanes, func(k int) api.Lane { return api.Lane{Cur: k} }, sameLane)
}

func wantApart[T any](t *testing.T, what string, lists [][]T, mark func(int) T, same func(a, b T) bool) {
	t.Helper()
	for k, l := range lists {
		filled(l, mark(k))
	}
	for k, l := range lists {
		if slices.ContainsFunc(l[:cap(l)], func(x T) bool { return !same(x, mark(k)) }) {
			t.Errorf("%s: the list %d shows what was written into another one", what, k)
		}
	}
}

// P16.4: the spare room of what is answered shows nothing that lies elsewhere: a list within it is no other list of the answer, and none that was handed in.
func TestSpareRoom(t *testing.T) {
	for _, c := range calls() {
		w := &watch{}
		a := c.run(w)
		want := a.clone()
		for _, l := range a.peers {
			for _, p := range l[len(l):cap(l)] {
				filled(p.Key, 0x55)
				filled(p.Prefixes, pre("55.0.0.0/8"))
			}
		}
		for _, l := range a.lanes {
			for _, one := range l[len(l):cap(l)] {
				filled(one.Key, 0x55)
			}
		}
		w.wantUnchanged(t, c.what)
		wantAnswer(t, c.what+", what lies in spare room written over", a, want)
	}
}

// P0.3, P16.4: what was answered is grown without a change of anything else.
func TestAnswersGrown(t *testing.T) {
	const more = 40
	for _, c := range calls() {
		w := &watch{}
		one, two := c.run(w), c.run(w)
		want, big := two.clone(), one
		for range more { // one by one, so that the spare room is used where there is some
			big = answer{
				each(big.bytes, func(b []byte) []byte { return append(b, 0x66) }),
				each(big.prefixes, func(l []api.Prefix) []api.Prefix { return append(l, pre("66.0.0.0/8")) }),
				each(big.peers, func(l []api.Peer) []api.Peer { return append(l, peer(66, key(66))) }),
				each(big.lanes, func(l []api.Lane) []api.Lane { return append(l, lane(key(66), 0, 66, 66)) }),
			}
		}
		wantAnswer(t, c.what+", another answer grown", two, want)
		wantAnswer(t, c.what+", all grown, their beginnings", one, want)
		w.wantUnchanged(t, c.what+", its answer grown")
		wantAnswer(t, c.what+", grown", answer{each(big.bytes, cut[byte](more)), each(big.prefixes, cut[api.Prefix](more)), each(big.peers, cut[api.Peer](more)), each(big.lanes, cut[api.Lane](more))}, want)
	}
}

// cut takes the last n off a list.
func cut[T any](n int) func([]T) []T {
	return func(l []T) []T { return l[:len(l)-n] }
}

// P0.3, P16.4: lists that are handed in may share memory with one another; those that are answered do not.
func TestSharedLists(t *testing.T) {
	one, two, prefixes := key(1), key(2), pres("9.0.0.0/8", "10.0.0.0/8", "11.0.0.0/8")
	was := conf{[]api.Peer{peer(1, one, prefixes[:1]...), peer(2, two, prefixes[1:]...)}, []api.Lane{lane(one, 0, 1, 0), lane(two, 0, 1, 0)}}
	fresh := key(50)
	l := []api.Change{
		allow(1, pre("12.0.0.0/8")), deny(2, pre("10.0.0.0/8")), setKey(1, one, 0), setKey(2, fresh, 0), // the keys are the peers' own memory, and that of each other
		add(3, two, 0), remove(3), add(4, two, 0), setKey(2, fresh, 0), allow(4, pre("8.0.0.0/8")),
	}
	want := plainDone(was, l...)
	got := done(t, was, l...)
	if !same(got, want) {
		t.Fatalf("%s, want %s", told(got), told(want))
	}
	if !bytes.Equal(one, key(1)) || !bytes.Equal(two, key(2)) || !bytes.Equal(fresh, key(50)) || !slices.Equal(prefixes, pres("9.0.0.0/8", "10.0.0.0/8", "11.0.0.0/8")) {
		t.Errorf("%x, %x, %x, %v have changed", one, two, fresh, prefixes)
	}
	all := answerOf(got)
	wantApart(t, "bytes", all.bytes, func(k int) byte { return byte(k) }, equal)
	wantApart(t, "prefixes", all.prefixes, func(k int) api.Prefix { return api.Prefix{Bits: k} }, equal)
	if !bytes.Equal(one, key(1)) || !bytes.Equal(two, key(2)) || !bytes.Equal(fresh, key(50)) {
		t.Errorf("what was written into the answer shows in what was handed in")
	}
}
