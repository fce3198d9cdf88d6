package route_test

import (
	"iter"
	"slices"
	"testing"

	"culvert/api"
	"culvert/prefix"
)

// P8.5: Len and All behind each call, in the order of prefix.Compare.
func TestAllBehindEachCall(t *testing.T) {
	s := newSampler(10)
	for range 30 {
		x, f := made(t)
		for _, y := range s.shuffled(some()) {
			x, f = with(t, x, y.p, y.link), f.with(y.p, y.link)
			wantTable(t, x, f)
		}
		for _, y := range s.shuffled(some()) {
			x, f = without(t, x, y.p), f.without(y.p)
			wantTable(t, x, f)
		}
	}
}

// P8.5: the order is by the families, then the bits, then the addresses: not that of the addresses alone, nor that of the links.
func TestAllOrder(t *testing.T) {
	want := []api.Prefix{
		prefix4(0, 0), prefix4(0, 1), prefix4(1<<31, 1), prefix4(0x0A000000, 8), prefix4(0xFF000000, 8), prefix4(0, 16), prefix4(0, 32), prefix4(1, 32), prefix4(max32, 32),
		prefix6(0, 0, 0), prefix6(1<<63, 0, 1), prefix6(0, 0, 64), prefix6(1, 0, 64), prefix6(0, 0, 65), prefix6(0, 1<<63, 65), prefix6(1, 0, 65), prefix6(0, 0, 128), prefix6(0, max64, 128), prefix6(1, 0, 128), prefix6(max64, max64, 128),
	}
	if !slices.IsSortedFunc(want, prefix.Compare) {
		t.Fatal("the list is not in order")
	}
	s := newSampler(11)
	for range 50 {
		var entries []entry
		for _, p := range want {
			entries = append(entries, entry{p, s.link()})
		}
		x, _ := made(t, s.shuffled(entries)...)
		if got := listOf(x); !slices.Equal(got, entries) {
			t.Fatalf("All() goes over %v, want %v", got, entries)
		}
	}
}

// P8.5: one iterator is gone over as often as one likes, left early at each place, and tells the same each time.
func TestAllLeftEarly(t *testing.T) {
	for size := range len(some()) + 1 {
		x, f := made(t, some()[:size]...)
		all := x.All()
		for stop := range size + 1 {
			var got flat
			for p, link := range all {
				if len(got) == stop {
					break
				}
				got = append(got, entry{p, link})
			}
			if !slices.Equal(got, f[:stop]) {
				t.Errorf("All() left behind %d goes over %v", stop, got)
			}
			if again := gone(all); !slices.Equal(again, f) {
				t.Errorf("All() behind one that was left goes over %v", again)
			}
		}
		wantTable(t, x, f)
	}
}

func gone(all iter.Seq2[api.Prefix, int]) flat {
	var out flat
	for p, link := range all {
		out = append(out, entry{p, link})
	}
	return out
}

// P8.5: what is asked is no more when it said that it has enough.
func TestAllCallsNoMore(t *testing.T) {
	x, f := made(t, some()...)
	for stop := 1; stop <= len(f); stop++ {
		calls := 0
		x.All()(func(api.Prefix, int) bool {
			calls++
			return calls < stop
		})
		if calls != stop {
			t.Errorf("All() that is left behind %d calls %d times", stop, calls)
		}
	}
}

// P8.5: one that is begun while another is under way, of the same iterator and of another one, of the same table and of one made of it: each goes over all.
func TestAllWithinAll(t *testing.T) {
	x, f := made(t, some()...)
	all := x.All()
	var outer flat
	for p, link := range all {
		if inner := gone(all); !slices.Equal(inner, f) {
			t.Fatalf("within: %v", inner)
		}
		if n := x.Len(); n != len(f) {
			t.Fatalf("Len() within = %d", n)
		}
		wantTable(t, without(t, x, p), f.without(p))
		for range x.All() {
			break
		}
		outer = append(outer, entry{p, link})
	}
	if !slices.Equal(outer, f) {
		t.Errorf("around: %v", outer)
	}
}

// P8.5: two that go forward by turns, at different places, do not see one another.
func TestAllByTurns(t *testing.T) {
	x, f := made(t, some()...)
	all := x.All()
	for ahead := range len(f) + 1 {
		next1, stop1 := iter.Pull2(all)
		next2, stop2 := iter.Pull2(all)
		var one, two flat
		for range ahead {
			p, link, _ := next1()
			one = append(one, entry{p, link})
		}
		for p, link, ok := next2(); ok; p, link, ok = next2() {
			two = append(two, entry{p, link})
			if p, link, ok := next1(); ok {
				one = append(one, entry{p, link})
			}
		}
		stop1()
		stop2()
		if !slices.Equal(one, f) || !slices.Equal(two, f) {
			t.Errorf("by turns, one ahead by %d: %v and %v", ahead, one, two)
		}
	}
}
