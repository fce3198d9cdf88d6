package net_test

import (
	"testing"

	"culvert/api"
)

// The examples of the chapter, one behind the other.
func TestExamples(t *testing.T) {
	x := newNet(t)
	wantSend(t, x, 1, []byte{0x41, 0x42}, 1)
	wantSend(t, x, 0, nil, 2)
	wantCopy(t, x, 1, 3, api.OK)
	wantCopy(t, x, 9, 0, api.ErrNoFlight)

	wantFlip(t, x, 1, 1, 3, api.OK)
	wantFlip(t, x, 1, 2, 3, api.ErrArg)
	wantFlip(t, x, 1, 0, 0, api.ErrArg)
	wantFlip(t, x, 1, 0, 256, api.ErrArg)
	wantFlip(t, x, 2, 0, 1, api.ErrArg)
	wantFlip(t, x, 9, 9, 9, api.ErrNoFlight)

	wantUnder(t, x, flight(1, 1, []byte{0x41, 0x41}), flight(2, 0, nil), flight(3, 1, []byte{0x41, 0x42}))

	wantTake(t, x, flight(3, 1, []byte{0x41, 0x42}))
	wantNone(t, x, 3)
	wantDrop(t, x, 2)
	wantErr(t, "Drop(2)", x.Drop(2), api.ErrNoFlight)

	wantSend(t, x, -7, []byte{0}, 4)
	wantUnder(t, x, flight(1, 1, []byte{0x41, 0x41}), flight(4, -7, []byte{0}))

	for no := 5; no <= 1026; no++ {
		wantSend(t, x, 0, nil, no)
	}
	if many := len(x.Under()); many != 1024 {
		t.Fatalf("%d are under way", many)
	}
	wantSend(t, x, 0, []byte{0x41}, 0)
	wantCopy(t, x, 1, 0, api.OK)
	wantDrop(t, x, 1)
	wantSend(t, x, 0, []byte{0x41}, 1027)
}
