package session_test

import (
	"slices"
	"testing"

	"culvert/api"
)

// wantDelivered: data is delivered, with this Ceil committed, or with none if it is the same as ahead.
func (b *both) wantDelivered(t *testing.T, what string, gen int, counter, ceil uint64) {
	t.Helper()
	was := b.s.Lane()
	commits := 0
	if was.Ceil != ceil {
		commits = 1
	}
	got := b.wantTaken(t, what, b.data(gen, counter), home(), api.TkDelivered, commits)
	if commits == 1 && !sameLane(got.commits[0], with(was, func(l *api.Lane) { l.Ceil = ceil })) {
		t.Fatalf("%s: %+v is committed, want Ceil %d", what, got.commits[0], ceil)
	}
	if string(got.taken.Data) != string(fromTo(1, 2, "x")) {
		t.Fatalf("%s: %x is delivered", what, got.taken.Data)
	}
	b.wantDrop(t, what+", again", b.data(gen, counter), home(), api.DropReplay)
}

// P19.4: counters at Ceil, below it and above it: what is not below it raises it by a block above itself.
func TestDataCeil(t *testing.T) {
	for _, block := range []int{1, 4, maxBlock} {
		b := newBoth(t, newLane(0), params(block, 1024))
		n := uint64(block)
		b.wantDelivered(t, "at Ceil 0", 1, 0, n)
		b.wantDelivered(t, "at Ceil", 1, n, 2*n)
		b.wantDelivered(t, "above Ceil", 1, 2*n+5, 3*n+5)
		b.wantDelivered(t, "at Ceil", 1, 3*n+5, 4*n+5)
		if n > 1 {
			b.wantDelivered(t, "just below Ceil", 1, 4*n+4, 4*n+5)
			b.wantDelivered(t, "below Ceil", 1, 4*n+3, 4*n+5)
		}
		b.wantDelivered(t, "far above Ceil", 1, 1<<63, 1<<63+n)
	}
}

// P19.4: the last counters: Ceil is MaxCounter + 1 at most, and nothing is above it.
func TestDataLastCounters(t *testing.T) {
	for _, block := range []int{1, 2, 5, maxBlock} {
		b := newBoth(t, newLane(1), params(block, 64))
		for c := maxCounter - 6; c != 0; c++ { // up to 2^64 - 1, which is no counter
			if c > maxCounter {
				b.wantDrop(t, "no counter", b.data(1, c), home(), api.DropForm)
				continue
			}
			ceil := b.p.lane.Ceil
			if c >= ceil {
				ceil = plainUp(c, block)
			}
			b.wantDelivered(t, "the last counters", 1, c, ceil)
		}
		if l := b.s.Lane(); l.Ceil != maxCounter+1 {
			t.Fatalf("Ceil is %d", l.Ceil)
		}
		later := newBoth(t, b.s.Lane(), params(block, 64))
		for c := maxCounter - 70; c <= maxCounter; c++ {
			later.wantDrop(t, "below the floor", later.data(1, c), home(), api.DropReplay)
		}
	}
}

// P19.4: the window: out of reach, in reach, taken, at each width.
func TestDataWindow(t *testing.T) {
	for _, width := range []int{64, 128, 512, 960, 1024} {
		b := newBoth(t, newLane(0), params(1, width))
		w := uint64(width)
		b.wantDelivered(t, "the first", 1, 5000, 5001)
		b.wantDrop(t, "out of reach", b.data(1, 5000-w), home(), api.DropReplay)
		b.wantDelivered(t, "in reach", 1, 5000-w+1, 5001)
		b.wantDelivered(t, "in reach", 1, 4999, 5001)
		b.wantDelivered(t, "above", 1, 5000+w, 5001+w)
		b.wantDrop(t, "out of reach by now", b.data(1, 5000), home(), api.DropReplay)
		b.wantDelivered(t, "in reach", 1, 5001, 5001+w)
	}
}

// P19.4: the floor of the first window is the Ceil that New found; what is below it is dropped for ever.
func TestDataFloor(t *testing.T) {
	b := newBoth(t, with(newLane(1), func(l *api.Lane) { l.Ceil = 50 }), params(4, 64))
	for _, c := range []uint64{0, 1, 48, 49} {
		b.wantDrop(t, "below the floor", b.data(1, c), home(), api.DropReplay)
	}
	b.wantDelivered(t, "above the floor", 1, 52, 56)
	b.wantDelivered(t, "at the floor", 1, 50, 56)
	b.wantDrop(t, "below the floor", b.data(1, 49), home(), api.DropReplay)
	b.wantAnswered(t, "an init", 2, 0, stampOf(1, 0), 0, []int{1}, nil)
	b.wantDrop(t, "below the floor of an older window", b.data(1, 49), home(), api.DropReplay)
	b.wantDelivered(t, "above the floor of an older window", 1, 51, 4)
	b.wantDelivered(t, "of the new one, whose floor is 0", 2, 1, 4)
}

// P19.4: of an older generation nothing is committed, whatever its counter; and Ceil, which is Cur's, is not asked.
func TestDataOlder(t *testing.T) {
	for side := range 2 {
		b := lively(t, side) // Ceil is 104
		for _, c := range []uint64{57, 103, 104, 105, 121, 1 << 40, maxCounter} {
			b.wantDelivered(t, "an older generation", 3, c, 104)
		}
		if v := b.s.View(); v.Top != 100 || v.Floor != 0 || v.At != 1 {
			t.Fatalf("data of an older generation has changed the window of Cur: %+v", v)
		}
		b.wantDelivered(t, "Cur", 4, 104, 108)
	}
}

// P19.4: payloads that may be are delivered as they are; what is none is dropped, and its counter may come again.
func TestDataPayloads(t *testing.T) {
	w := noWay().to("0.0.0.0/0", link).to("::/0", link)
	b, at := newBoth(t, newLane(0), params(4, 64)), uint64(0)
	for what, p := range noPayloads() {
		if len(p) >= 9 && len(p) <= 1280 {
			b.wantDrop(t, what, b.from(pkData, 1, at, p), w, api.DropPayload)
		} else {
			b.wantDrop(t, what, b.from(pkData, 1, at, p), w, api.DropForm)
		}
	}
	for what, p := range payloads() {
		got := b.do(t, take(b.from(pkData, 1, at, p), w))
		if got.taken.Kind != api.TkDelivered || !slices.Equal(got.taken.Data, p) {
			t.Fatalf("%s: %+v", what, got)
		}
		at++
	}
}

// P19.4: sources that the table finds for the link, for another one, and not at all.
func TestDataSources(t *testing.T) {
	for i, x := range []struct {
		payload []byte
		way     way
		ok      bool
	}{
		{fromTo(1, 2, ""), home(), true},
		{fromTo(127, 2, ""), home(), true},
		{fromTo(128, 2, ""), home(), false},
		{[]byte{4, 10, 1, 0, 1, 10, 0, 0, 1}, home(), false},
		{fromTo6(1, 2, ""), home(), true},
		{fromTo6(128, 2, ""), home(), false},
		{fromTo(1, 2, ""), noWay(), false},
		{fromTo6(1, 2, ""), noWay(), false},
		{fromTo(1, 2, ""), noWay().to("::/0", link), false},
		{fromTo6(1, 2, ""), noWay().to("0.0.0.0/0", link), false},
		{fromTo(1, 2, ""), noWay().to("10.0.0.1/32", link), true},
		{fromTo(1, 2, ""), noWay().to("10.0.0.1/32", 8).to("0.0.0.0/0", link), false},
		{fromTo(1, 2, ""), noWay().to("10.0.0.1/32", link).to("0.0.0.0/0", 8), true},
		{fromTo(1, 2, ""), noWay().to("10.0.0.2/32", link), false},
		{fromTo(1, 2, ""), noWay().to("10.1.0.2/32", link), false}, // the destination
		{fromTo(1, 2, ""), noWay().to("0.0.0.0/0", maxLink), false},
	} {
		for side := range 2 {
			b := newBoth(t, newLane(side), params(4, 64))
			packet := b.from(pkData, 1, 3, x.payload)
			if !x.ok {
				b.wantDrop(t, "a source that is not the peer's", packet, x.way, api.DropSource)
				b.wantTaken(t, "by another table", packet, noWay().to("0.0.0.0/0", link).to("::/0", link), api.TkDelivered, 1)
			} else if got := b.wantTaken(t, "a source", packet, x.way, api.TkDelivered, 1); string(got.taken.Data) != string(x.payload) {
				t.Fatalf("%d: %x is delivered", i, got.taken.Data)
			}
			b.wantDrop(t, "again", packet, x.way, api.DropReplay)
		}
	}
}

// P19.4: any table, whatever it is at the time; the table is not kept.
func TestDataTables(t *testing.T) {
	b := newBoth(t, newLane(0), params(4, 64))
	for c := range uint64(10) {
		packet := b.data(1, c)
		b.wantDrop(t, "without", packet, noWay(), api.DropSource)
		b.wantTaken(t, "with", packet, home(), api.TkDelivered, map[uint64]int{0: 1, 4: 1, 8: 1}[c])
	}
}
