package lane_test

import (
	"bytes"
	"slices"
	"testing"

	"culvert/api"
	"culvert/lane"
)

const wide = 40 // bytes around a key that is watched

// roomy is a list in the midst of a longer one: what lies behind it is its spare room.
func roomy(k []byte) (list, all []byte) {
	room := bytes.Repeat([]byte{0x77}, wide)
	all = slices.Concat(room, k, room)
	return all[wide : wide+len(k)], all
}

// keyed is a call that is handed a key, by itself or in a lane, and answers a lane.
type keyed struct {
	what string
	key  []byte
	run  func(k []byte) api.Lane
}

// keyedCalls are of all kinds, refused ones too, with lanes that may be and others.
func keyedCalls(t *testing.T) []keyed {
	var out []keyed
	for side := -1; side <= 2; side++ {
		for _, k := range [][]byte{nil, key(1), key(1)[:31], append(key(1), 9)} {
			out = append(out, keyed{"New", k, func(k []byte) api.Lane { return lane.New(k, side) }})
		}
	}
	add := func(l api.Lane, c call) {
		out = append(out, keyed{c.kind, l.Key, func(k []byte) api.Lane {
			return c.do(with(l, func(l *api.Lane) { l.Key = k })).lane
		}})
	}
	last := with(someLane(), func(l *api.Lane) { l.Cur, l.Next, l.SendCur, l.Ceil = maxGen, maxGen, maxCounter+1, maxCounter+1 })
	short, long := with(someLane(), func(l *api.Lane) { l.Key = key(3)[:31] }), with(someLane(), func(l *api.Lane) { l.Key = append(key(3), 9) })
	for _, c := range goodCalls(t, someLane()) {
		for _, l := range []api.Lane{someLane(), last, short, long, with(someLane(), func(l *api.Lane) { l.Side = 2 }), {}} {
			add(l, c)
		}
		bad := c
		bad.block = 0
		add(someLane(), bad)
	}
	s := newSampler(5)
	for range 200 {
		l := s.lane()
		add(l, s.call(l))
	}
	return out
}

// spoil writes over a list and its spare room.
func spoil(list []byte, x byte) {
	list = list[:cap(list)]
	for i := range list {
		list[i] = x
	}
}

// P17.10, P0.3: what is handed in is as it was, its spare room too, and is not kept: written over behind the call it changes nothing that was answered, and the other way round.
func TestHandedIn(t *testing.T) {
	for _, c := range keyedCalls(t) {
		handed, all := roomy(c.key)
		was := bytes.Clone(all)
		got := c.run(handed)
		if !bytes.Equal(all, was) {
			t.Fatalf("%s: what was handed in, or what lies around it, has become %x", c.what, all)
		}
		before := with(got, func(l *api.Lane) { l.Key = bytes.Clone(got.Key) })
		if len(got.Key) > 0 && !bytes.Equal(got.Key, c.key) {
			t.Fatalf("%s: the key %x became %x", c.what, c.key, got.Key)
		}
		spoil(all, 0xEE)
		if !sameLane(got, before) {
			t.Fatalf("%s: what was answered has become %s by a write into what was handed in", c.what, told(got))
		}
		spoil(got.Key, 0x55)
		for range wide {
			got.Key = append(got.Key, 0x66)
		}
		if !bytes.Equal(all, bytes.Repeat([]byte{0xEE}, len(was))) {
			t.Fatalf("%s: what was handed in has become %x by a write into what was answered", c.what, all)
		}
		again, _ := roomy(c.key)
		if got := c.run(again); !sameLane(got, before) {
			t.Fatalf("%s: answers %s the second time, and %s the first time", c.what, told(got), told(before))
		}
	}
}

// P17.10, P0.3: the key of each lane is its own: what is written into one, or appended to it, no other one shows.
func TestKeysApart(t *testing.T) {
	calls := keyedCalls(t)
	type one struct {
		lane, was api.Lane
		what      string
	}
	var all []one
	for range 3 {
		for _, c := range calls {
			handed, _ := roomy(c.key)
			for range 2 { // the same list handed in twice
				l := c.run(handed)
				all = append(all, one{l, with(l, func(l *api.Lane) { l.Key = bytes.Clone(l.Key) }), c.what})
			}
		}
	}
	for i := range all {
		spoil(all[i].lane.Key, byte(i))
		for _, other := range all[i+1 : min(len(all), i+9)] {
			if !sameLane(other.lane, other.was) {
				t.Fatalf("%s: the key has become %x by a write into another one", other.what, other.lane.Key)
			}
		}
	}
	for _, digit := range []func(i int) byte{func(i int) byte { return byte(i % 251) }, func(i int) byte { return byte(i / 251) }} {
		for i, x := range all {
			spoil(x.lane.Key, digit(i))
		}
		for i, x := range all {
			room := x.lane.Key[:cap(x.lane.Key)]
			if slices.ContainsFunc(room, func(b byte) bool { return b != digit(i) }) {
				t.Fatalf("%s: the list %d shows what was written into another one: %x", x.what, i, room)
			}
		}
	}
}

// P17.10, P0.3: keys are grown, one byte after another so that spare room is used where there is some, without a change of anything else.
func TestKeysGrown(t *testing.T) {
	for _, c := range keyedCalls(t) {
		handed, all := roomy(c.key)
		was := bytes.Clone(all)
		one, two := c.run(handed), c.run(handed)
		want := bytes.Clone(two.Key)
		a, b := one.Key, two.Key
		for range wide {
			a, b = append(a, 0x66), append(b, 0x99)
		}
		if !bytes.Equal(a, append(bytes.Clone(want), bytes.Repeat([]byte{0x66}, wide)...)) || !bytes.Equal(b, append(bytes.Clone(want), bytes.Repeat([]byte{0x99}, wide)...)) {
			t.Fatalf("%s: grown keys are %x and %x", c.what, a, b)
		}
		if !bytes.Equal(all, was) {
			t.Fatalf("%s: what was handed in, or what lies around it, has become %x", c.what, all)
		}
	}
}

// P17.10: of lanes one behind the other, each made of the one ahead, no two share a key.
func TestChainOfLanes(t *testing.T) {
	first := key(9)
	lanes := []api.Lane{lane.New(first, 1)}
	for _, c := range []call{reserve(0, 10), propose(), propose(), opened(2, 5, 10), raise(15, 10), answered(3, 7, stampOf(5, 0), 10), again(), answered(9, 7, stampOf(6, 0), 10), propose(), opened(10, 1, 1)} {
		next := c.do(lanes[len(lanes)-1]).lane
		if !bytes.Equal(next.Key, key(9)) {
			t.Fatalf("%+v of %s = %s", c, told(lanes[len(lanes)-1]), told(next))
		}
		lanes = append(lanes, next)
	}
	for i, l := range lanes {
		spoil(l.Key, byte(i))
	}
	for i, l := range lanes {
		if !bytes.Equal(l.Key, bytes.Repeat([]byte{byte(i)}, 32)) {
			t.Errorf("the lane %d shows what was written into another one: %x", i, l.Key)
		}
	}
	if !bytes.Equal(first, key(9)) {
		t.Errorf("the key that was handed in has become %x", first)
	}
}

// P0.4: what is answered hangs on nothing but the arguments: not on calls ahead, not on calls at the same time, not on how long the key's memory is.
func TestNothingElse(t *testing.T) {
	calls := goodCalls(t, someLane())
	var want []answer
	for _, c := range calls {
		want = append(want, c.plain(someLane()))
	}
	wrong := make(chan string)
	for i := range 20 {
		go func() {
			l := with(someLane(), func(l *api.Lane) { l.Key = slices.Grow(l.Key, 10*i) })
			for j, c := range calls {
				calls[(i+j)%len(calls)].do(with(l, func(l *api.Lane) { l.Side, l.Cur = 1-l.Side, l.Cur+j }))
				if got := c.do(l); !same(got, want[j]) {
					wrong <- c.kind
					return
				}
			}
			wrong <- ""
		}()
	}
	for range 20 {
		if kind := <-wrong; kind != "" {
			t.Errorf("%s answers something else beside other calls", kind)
		}
	}
}
