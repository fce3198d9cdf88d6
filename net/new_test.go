package net_test

import "testing"

// P21.1: nothing is under way, and no number was given: no call finds a flight, and nothing comes of asking.
func TestNew(t *testing.T) {
	n := newNet(t)
	wantUnder(t, n)
	for _, no := range edgeInts() {
		wantNone(t, n, no)
	}
	for no := -1100; no <= 2200; no++ {
		wantNone(t, n, no)
	}
	wantUnder(t, n)
}

// P21.1, P21.2: the first number is 1, in each net, whatever was asked ahead of it.
func TestFirstNumber(t *testing.T) {
	for range 3 {
		n := newNet(t)
		wantSend(t, n, 5, []byte("first"), 1)
		wantUnder(t, n, flight(1, 5, []byte("first")))
	}
	n := newNet(t)
	for _, no := range edgeInts() {
		wantNone(t, n, no)
		n.Under()
	}
	wantSend(t, n, 5, nil, 1)
	wantUnder(t, n, flight(1, 5, nil))
}

// P21.1: a new net has room for MaxUnder.
func TestNewHasRoom(t *testing.T) {
	n, all := filled(t, most)
	wantUnder(t, n, all...)
	wantSend(t, n, 0, nil, 0)
}
