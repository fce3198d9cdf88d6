package net_test

import (
	"testing"

	"culvert/api"
)

// few are calls of which any row tells something.
func few() []call {
	return []call{
		{what: "Send", to: 1, data: []byte{0x41, 0x42}},
		{what: "Send", to: -7},
		{what: "Take", no: 1},
		{what: "Take", no: 2},
		{what: "Drop", no: 1},
		{what: "Drop", no: 3},
		{what: "Copy", no: 1},
		{what: "Copy", no: 2},
		{what: "Flip", no: 1, at: 1, x: 3},
		{what: "Flip", no: 2, at: 1, x: 255},
		{what: "Flip", no: 3, at: 0, x: 1},
		{what: "Flip", no: 1, at: 2, x: 256},
		{what: "Under"},
	}
}

// P21.1 to P21.6: all rows of up to five of a few calls, and behind each all that is under way.
func TestAllShortHistories(t *testing.T) {
	count := 0
	var walk func(row []call, left int)
	walk = func(row []call, left int) {
		if left > 0 {
			for _, c := range few() {
				walk(append(row, c), left-1)
			}
			return
		}
		count++
		n, p := newNet(t), plain{}
		for _, c := range row {
			if got, want := ofNet(n, c), ofPlain(&p, c); !sameAnswer(got, want) {
				t.Fatalf("%v: the last one answers %v, want %v", row, got, want)
			}
		}
		if got, want := n.Under(), p.under(); !sameList(got, want) {
			t.Fatalf("%v: Under() = %s, want %s", row, briefList(got), briefList(want))
		}
	}
	for left := range 6 {
		walk(nil, left)
	}
	if count != 1+13+13*13+13*13*13+13*13*13*13+13*13*13*13*13 {
		t.Errorf("%d histories", count)
	}
}

// call is any call, mostly of a number up to about the greatest one that may have been given, with places up to about the longest bytes.
func (s sampler) call(numbers, longest int) call {
	no := 1 + s.IntN(numbers+2)
	if s.IntN(20) == 0 {
		no = pick(s, edgeInts())
	}
	switch s.IntN(12) {
	case 0, 1, 2:
		return call{what: "Send", to: pick(s, edgeInts()), data: s.bytes(longest)}
	case 3:
		return call{what: "Take", no: no}
	case 4:
		return call{what: "Drop", no: no}
	case 5, 6:
		return call{what: "Copy", no: no}
	case 7:
		return call{what: "Under"}
	case 8:
		return call{what: "Flip", no: no, at: pick(s, edgeInts()), x: pick(s, edgeInts())}
	}
	return call{what: "Flip", no: no, at: s.IntN(longest+2) - 1, x: s.IntN(258) - 1}
}

// wantSeen: each kind of answer was had, so many times at least.
func wantSeen(t *testing.T, seen map[string]int, least int) {
	t.Helper()
	for _, what := range []string{
		"Send 0 true", "Send 0 false", "Take 0 false", "Take 218 false", "Drop 0 false", "Drop 218 false",
		"Copy 0 true", "Copy 0 false", "Copy 218 false", "Flip 0 false", "Flip 2 false", "Flip 218 false", "Under 0 false",
	} {
		if seen[what] < least {
			t.Errorf("%s: only %d times", what, seen[what])
		}
	}
}

// P21.1 to P21.6, P21.8: sampled histories of any calls, of a few flights, held against the plain form.
func TestHistories(t *testing.T) {
	s := newSampler(5)
	seen := map[string]int{}
	for range 400 {
		b := newBoth(t)
		for i := range 150 {
			b.do(t, s.call(3+i/3, 1+s.IntN(12)))
		}
		b.look(t)
		for what, times := range b.seen {
			seen[what] += times
		}
	}
	seen["Send 0 false"], seen["Copy 0 false"] = 100, 100 // these come in full nets: see below
	wantSeen(t, seen, 100)
}

// P21.1 to P21.6, P21.8: sampled histories of any calls around MaxUnder, where packets and copies are lost.
func TestFullHistories(t *testing.T) {
	s := newSampler(6)
	seen := map[string]int{}
	for range 4 {
		b := newBoth(t)
		for i := range most - 5 {
			b.do(t, call{what: "Send", to: i, data: s.bytes(6)})
		}
		for i := range 600 {
			if c := s.call(b.p.given(), 7); c.what != "Under" || i%5 == 0 {
				b.do(t, c)
			}
		}
		b.look(t)
		for no := b.p.given() + 1; no >= 0; no -= 1 + s.IntN(3) {
			b.do(t, call{what: pick(s, []string{"Take", "Drop", "Copy", "Take", "Drop"}), no: no})
		}
		b.look(t)
		for what, times := range b.seen {
			seen[what] += times
		}
	}
	wantSeen(t, seen, 20)
}

// P0.1: any calls with the oddest arguments, in nets of no flight, of some and of MaxUnder: none panics.
func TestOddArguments(t *testing.T) {
	for _, many := range []int{0, 3, most} {
		n, all := filled(t, many)
		for _, no := range edgeInts() {
			if 1 <= no && no <= many {
				continue
			}
			wantNone(t, n, no)
			for _, at := range edgeInts() {
				for _, x := range edgeInts() {
					wantFlip(t, n, no, at, x, noFlight)
				}
			}
		}
		for _, at := range edgeInts() {
			for _, x := range edgeInts() {
				want := noArg
				if many > 0 && 0 <= at && at < len(all[0].Data) && 1 <= x && x <= 255 {
					want = api.OK
					all[0].Data[at] ^= byte(x)
				}
				if many > 0 {
					wantFlip(t, n, 1, at, x, want)
				}
			}
		}
		wantUnder(t, n, all...)
	}
}
