package net_test

import (
	"slices"
	"testing"

	"culvert/api"
)

// P21.4: a copy has the next number, the same To and the same bytes; the flight itself stays as it was.
func TestCopy(t *testing.T) {
	for _, to := range edgeInts() {
		for _, size := range []int{0, 1, 2, 36, 1316, 70000} {
			n := newNet(t)
			b := numbered(to, size)
			wantSend(t, n, to, b, 1)
			wantSend(t, n, 5, []byte("other"), 2)
			wantCopy(t, n, 1, 3, api.OK)
			wantUnder(t, n, flight(1, to, b), flight(2, 5, []byte("other")), flight(3, to, b))
			wantCopy(t, n, 2, 4, api.OK)
			wantTake(t, n, flight(3, to, b))
			wantTake(t, n, flight(1, to, b))
			wantUnder(t, n, flight(2, 5, []byte("other")), flight(4, 5, []byte("other")))
		}
	}
}

// P21.4: each flight of many is copied; copies of copies too.
func TestCopyEach(t *testing.T) {
	n, all := filled(t, most/4)
	for range 2 {
		for _, f := range slices.Clone(all) {
			next := len(all) + 1
			wantCopy(t, n, f.No, next, api.OK)
			all = append(all, flight(next, f.To, f.Data))
		}
		wantUnder(t, n, all...)
	}
	wantCopy(t, n, 1, 0, api.OK)
	for _, f := range all {
		wantTake(t, n, f)
	}
}

// P21.4: a copy outlives its flight, and a flight its copy.
func TestCopyOutlives(t *testing.T) {
	n, all := filled(t, 3)
	wantCopy(t, n, 2, 4, api.OK)
	wantCopy(t, n, 2, 5, api.OK)
	wantDrop(t, n, 4)
	wantUnder(t, n, all[0], all[1], all[2], flight(5, all[1].To, all[1].Data))
	wantTake(t, n, all[1])
	wantUnder(t, n, all[0], all[2], flight(5, all[1].To, all[1].Data))
	wantNone(t, n, 2)
	wantCopy(t, n, 5, 6, api.OK)
	wantTake(t, n, flight(6, all[1].To, all[1].Data))
	wantTake(t, n, flight(5, all[1].To, all[1].Data))
	wantUnder(t, n, all[0], all[2])
}

// P21.4, P21.8: a copy has the flips that came ahead of it; those behind it are done to one of the two alone.
func TestCopyOfFlipped(t *testing.T) {
	n := newNet(t)
	wantSend(t, n, 1, []byte{0x10, 0x20, 0x30}, 1)
	wantFlip(t, n, 1, 0, 0x01, api.OK)
	wantFlip(t, n, 1, 2, 0xFF, api.OK)
	wantCopy(t, n, 1, 2, api.OK)
	wantUnder(t, n, flight(1, 1, []byte{0x11, 0x20, 0xCF}), flight(2, 1, []byte{0x11, 0x20, 0xCF}))
	wantFlip(t, n, 1, 1, 0x80, api.OK)
	wantUnder(t, n, flight(1, 1, []byte{0x11, 0xA0, 0xCF}), flight(2, 1, []byte{0x11, 0x20, 0xCF}))
	wantFlip(t, n, 2, 0, 0x01, api.OK)
	wantUnder(t, n, flight(1, 1, []byte{0x11, 0xA0, 0xCF}), flight(2, 1, []byte{0x10, 0x20, 0xCF}))
	wantCopy(t, n, 2, 3, api.OK)
	wantFlip(t, n, 2, 2, 0x0F, api.OK)
	wantFlip(t, n, 3, 2, 0xF0, api.OK)
	wantCopy(t, n, 1, 4, api.OK)
	wantTake(t, n, flight(1, 1, []byte{0x11, 0xA0, 0xCF}))
	wantTake(t, n, flight(4, 1, []byte{0x11, 0xA0, 0xCF}))
	wantTake(t, n, flight(3, 1, []byte{0x10, 0x20, 0x3F}))
	wantTake(t, n, flight(2, 1, []byte{0x10, 0x20, 0xC0}))
}

// P21.4: with MaxUnder under way the copy is lost, like a packet: 0, and OK; nothing has changed, and no number was taken.
func TestCopyWhenFull(t *testing.T) {
	n, all := filled(t, most-1)
	wantCopy(t, n, 1, most, api.OK)
	all = append(all, flight(most, all[0].To, all[0].Data))
	for range 3 {
		for no := 1; no <= most; no++ {
			wantCopy(t, n, no, 0, api.OK)
		}
	}
	wantUnder(t, n, all...)
	for _, no := range []int{0, -1, most + 1, leastInt, greatestInt} {
		wantCopy(t, n, no, 0, noFlight)
	}
	wantDrop(t, n, 5)
	wantCopy(t, n, 5, 0, noFlight)
	wantCopy(t, n, 6, most+1, api.OK)
	wantCopy(t, n, 6, 0, api.OK)
	wantSend(t, n, 1, nil, 0)
	wantTake(t, n, flight(most+1, all[5].To, all[5].Data))
	wantSend(t, n, 1, nil, most+2)
}

// P21.2, P21.4: Send and Copy take their numbers from one row.
func TestCopyAndSendByTurns(t *testing.T) {
	n := newNet(t)
	wantSend(t, n, 8, []byte("begin"), 1)
	all := []api.Flight{flight(1, 8, []byte("begin"))}
	for no := 2; no <= most; no++ {
		if no%3 == 0 {
			wantSend(t, n, no, numbered(no, 6), no)
			all = append(all, flight(no, no, numbered(no, 6)))
		} else {
			from := all[no*31%len(all)]
			wantCopy(t, n, from.No, no, api.OK)
			all = append(all, flight(no, from.To, from.Data))
		}
	}
	wantUnder(t, n, all...)
}

// P21.4: a long row of copies, each of the one ahead, which is flipped and then goes.
func TestCopyRow(t *testing.T) {
	n := newNet(t)
	b := numbered(77, 20)
	wantSend(t, n, -3, b, 1)
	for no := 1; no <= 3000; no++ {
		at, x := no%20, 1+no%255
		wantFlip(t, n, no, at, x, api.OK)
		b[at] ^= byte(x)
		wantCopy(t, n, no, no+1, api.OK)
		wantTake(t, n, flight(no, -3, b))
	}
	wantUnder(t, n, flight(3001, -3, b))
}
