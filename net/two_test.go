package net_test

import (
	"testing"

	"culvert/api"
)

// P21.7: what is done in one net no other one knows of: numbers, flights, bytes and room are each net's own.
func TestTwoNets(t *testing.T) {
	a, b := newNet(t), newNet(t)
	data := []byte{1, 2, 3}
	for no := 1; no <= most; no++ {
		wantSend(t, a, 1, data, no)
		if no%100 == 0 {
			wantUnder(t, b)
		}
	}
	wantSend(t, a, 1, data, 0)
	wantNone(t, b, 1)
	wantSend(t, b, 2, data, 1)
	wantUnder(t, b, flight(1, 2, data))
	wantFlip(t, b, 1, 0, 8, api.OK)
	wantTake(t, a, flight(1, 1, data))
	wantFlip(t, a, 2, 1, 8, api.OK)
	wantUnder(t, b, flight(1, 2, []byte{9, 2, 3}))
	wantTake(t, b, flight(1, 2, []byte{9, 2, 3}))
	wantTake(t, a, flight(2, 1, []byte{1, 10, 3}))
	wantTake(t, a, flight(3, 1, data))
	wantSend(t, b, 2, data, 2)
	wantSend(t, a, 1, data, most+1)
	if c := newNet(t); len(c.Under()) != 0 {
		t.Fatalf("a new net has %s", briefList(c.Under()))
	}
}

// P21.7, P0.4: many nets side by side, asked by turns: each answers as if it were alone.
func TestSideBySide(t *testing.T) {
	s := newSampler(7)
	for range 30 {
		var all []*both
		for range 6 {
			all = append(all, newBoth(t))
		}
		for range 600 {
			b := pick(s, all)
			b.do(t, s.call(b.p.given(), 6))
			pick(s, all).look(t)
		}
		for _, b := range all {
			b.look(t)
		}
	}
}

// P0.4: the same calls, the same answers, each time, whatever else was made and asked meanwhile.
func TestSameAgain(t *testing.T) {
	var first []answer
	for round := range 20 {
		s, n, other := newSampler(8), newNet(t), newNet(t)
		for i := range 1500 {
			c := s.call(60, 10)
			got := ofNet(n, c)
			if round == 0 {
				first = append(first, got)
				continue
			}
			ofNet(other, call{what: "Send", to: i, data: c.data})
			ofNet(other, c)
			if want := first[i]; !sameAnswer(got, want) {
				t.Fatalf("%v = %v, and was %v", c, got, want)
			}
		}
	}
}
