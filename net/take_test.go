package net_test

import (
	"fmt"
	"slices"
	"testing"

	"culvert/api"
)

// orders are ways through a list of flights.
func orders(all []api.Flight) map[string][]api.Flight {
	falling := slices.Clone(all)
	slices.Reverse(falling)
	mixed := slices.Clone(all)
	newSampler(1).Shuffle(len(mixed), func(i, j int) { mixed[i], mixed[j] = mixed[j], mixed[i] })
	return map[string][]api.Flight{"rising": slices.Clone(all), "falling": falling, "any": mixed}
}

// without is a list of flights but for the one of a number.
func without(all []api.Flight, no int) []api.Flight {
	return slices.DeleteFunc(slices.Clone(all), func(f api.Flight) bool { return f.No == no })
}

// P21.3: each flight is taken, or dropped, in any order, once: then no call finds it any more; all others stay as they were.
func TestEachOnce(t *testing.T) {
	for _, many := range []int{1, 2, 3, 100, most} {
		_, all := filled(t, many)
		for name, order := range orders(all) {
			t.Run(fmt.Sprint(many, " ", name), func(t *testing.T) {
				wantEachOnce(t, order, func(int) bool { return false })
				wantEachOnce(t, order, func(int) bool { return true })
				wantEachOnce(t, order, func(no int) bool { return no*7%3 == 0 })
			})
		}
	}
}

// wantEachOnce takes all flights of a filled net, or drops them, in an order.
func wantEachOnce(t *testing.T, order []api.Flight, drops func(no int) bool) {
	t.Helper()
	many := len(order)
	n, left := filled(t, many)
	for i, f := range order {
		if drops(f.No) {
			wantDrop(t, n, f.No)
		} else {
			wantTake(t, n, f)
		}
		wantNone(t, n, f.No)
		left = without(left, f.No)
		if many <= 100 || i%200 == 0 {
			wantUnder(t, n, left...)
		}
	}
	wantUnder(t, n)
	for _, f := range order {
		wantNone(t, n, f.No)
	}
	wantSend(t, n, 0, nil, many+1)
}

// P21.3: numbers that were never given, 0, below zero, and those that differ from a flight's by what a number may be cut to.
func TestNeverGiven(t *testing.T) {
	for _, many := range []int{1, 5, most} {
		n, all := filled(t, many)
		var numbers []int
		for _, no := range edgeInts() {
			if no < 1 || no > many {
				numbers = append(numbers, no)
			}
		}
		for no := 1; no <= many; no += 1 + many/5 {
			numbers = append(numbers, -no, no-256*5, no+256*5, no-most, no+most, no-1<<16, no+1<<16, no-1<<32, no+1<<32, no+leastInt, many+no)
		}
		for _, no := range numbers {
			wantNone(t, n, no)
		}
		wantUnder(t, n, all...)
	}
}

// P21.2 to P21.5: what was lost has no number: neither 0 nor the next one finds it, also when there is room again.
func TestLostIsNowhere(t *testing.T) {
	n, all := filled(t, most)
	wantSend(t, n, 3, []byte("lost"), 0)
	wantCopy(t, n, 7, 0, api.OK)
	for range 2 {
		for _, no := range []int{0, -1, most + 1, most + 2, most + 3} {
			wantNone(t, n, no)
		}
		wantUnder(t, n, all...)
		wantTake(t, n, all[0])
		all = all[1:]
	}
	wantSend(t, n, 4, []byte("not lost"), most+1)
	wantTake(t, n, flight(most+1, 4, []byte("not lost")))
}

// P21.3: Take and Drop of a number that was given again and again, by turns, with others sent between.
func TestGoneForEver(t *testing.T) {
	n, all := filled(t, 10)
	wantTake(t, n, all[3])
	wantDrop(t, n, 6)
	wantCopy(t, n, 8, 11, api.OK)
	wantTake(t, n, flight(11, all[7].To, all[7].Data))
	for no := 12; no < 3000; no++ {
		wantSend(t, n, 4, all[3].Data, no)
		for _, was := range []int{4, 6, 11} {
			wantNone(t, n, was)
		}
		wantDrop(t, n, no)
		wantNone(t, n, no)
	}
	wantUnder(t, n, all[0], all[1], all[2], all[4], all[6], all[7], all[8], all[9])
}

// P21.3: a flight without bytes is a flight: it is found once.
func TestTakeOfNoBytes(t *testing.T) {
	for _, b := range [][]byte{nil, {}} {
		n := newNet(t)
		wantSend(t, n, 0, b, 1)
		wantSend(t, n, 0, b, 2)
		wantUnder(t, n, flight(1, 0, nil), flight(2, 0, nil))
		wantTake(t, n, flight(1, 0, nil))
		wantDrop(t, n, 2)
		wantNone(t, n, 1)
		wantNone(t, n, 2)
	}
}

// P21.3, P21.6: what Take answers is what Under told of it, and Drop takes away the same.
func TestTakeIsUnder(t *testing.T) {
	s := newSampler(2)
	n, _ := filled(t, 60)
	for no := 61; no <= 90; no++ {
		wantCopy(t, n, 1+s.IntN(no-1), no, api.OK)
	}
	for no := 1; no <= 90; no++ {
		wantFlip(t, n, no, s.IntN(4), 1+s.IntN(255), api.OK)
	}
	all := n.Under()
	for len(all) > 0 {
		i := s.IntN(len(all))
		if s.IntN(3) == 0 {
			wantDrop(t, n, all[i].No)
		} else {
			wantTake(t, n, all[i])
		}
		all = slices.Delete(all, i, i+1)
		wantUnder(t, n, all...)
	}
}

// P0.2: a call that answers ErrNoFlight changes nothing: neither what is under way nor the next number, nor how much room there is.
func TestRefusedChangesNothing(t *testing.T) {
	for _, many := range []int{0, 1, 7, most - 1, most} {
		t.Run(fmt.Sprint(many), func(t *testing.T) {
			n, all := filled(t, many)
			for range 30 {
				for _, no := range []int{0, -1, many + 1, many + 2, leastInt, greatestInt} {
					wantNone(t, n, no)
				}
			}
			wantUnder(t, n, all...)
			for no := many + 1; no <= most; no++ {
				wantSend(t, n, 0, nil, no)
			}
			wantSend(t, n, 0, nil, 0)
		})
	}
}
