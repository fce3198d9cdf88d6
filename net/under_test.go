package net_test

import (
	"slices"
	"testing"

	"culvert/api"
)

// P21.6: rising by their numbers, whichever have gone, however many there are.
func TestUnderInOrder(t *testing.T) {
	for _, many := range []int{0, 1, 2, 7, 8, 9, 64, 300, most - 1, most} {
		n, all := filled(t, many)
		wantUnder(t, n, all...)
		for _, f := range orders(all)["any"][:many/2] {
			wantDrop(t, n, f.No)
			all = without(all, f.No)
		}
		wantUnder(t, n, all...)
		for no := many + 1; no <= many+many/2; no++ {
			wantSend(t, n, -no, nil, no)
			all = append(all, flight(no, -no, nil))
		}
		wantUnder(t, n, all...)
	}
}

// P21.6: the order is that of the numbers, not of where they go, nor of the bytes, nor of flips.
func TestUnderByNumberOnly(t *testing.T) {
	n := newNet(t)
	var all []api.Flight
	for no := 1; no <= 200; no++ {
		b := numbered(200-no, 30-no%30)
		wantSend(t, n, 100-no, b, no)
		all = append(all, flight(no, 100-no, b))
	}
	for no := 200; no >= 1; no -= 3 {
		wantFlip(t, n, no, 0, 1+no, api.OK)
		all[no-1].Data[0] ^= byte(1 + no)
	}
	wantUnder(t, n, all...)
}

// P21.6: it changes nothing: asked again and again, it tells the same, and all that is asked behind it is answered as without it.
func TestUnderChangesNothing(t *testing.T) {
	n, all := filled(t, most-2)
	quiet, _ := filled(t, most-2)
	for range 50 {
		wantUnder(t, n, all...)
	}
	s := newSampler(3)
	for range 3000 {
		c := s.call(most+20, 8)
		n.Under()
		if got, want := ofNet(n, c), ofNet(quiet, c); !sameAnswer(got, want) {
			t.Fatalf("%v = %v, and %v without an Under ahead of it", c, got, want)
		}
	}
	wantUnder(t, n, quiet.Under()...)
}

// P21.6: each flight once, with all of a net's calls between.
func TestUnderEachOnce(t *testing.T) {
	s, n := newSampler(4), newNet(t)
	for range 3000 {
		ofNet(n, s.call(200, 6))
		l := n.Under()
		if !slices.IsSortedFunc(l, func(a, b api.Flight) int { return a.No - b.No }) {
			t.Fatalf("Under() = %s", briefList(l))
		}
		if len(slices.CompactFunc(slices.Clone(l), func(a, b api.Flight) bool { return a.No == b.No })) != len(l) {
			t.Fatalf("Under() = %s: some number twice", briefList(l))
		}
	}
}
