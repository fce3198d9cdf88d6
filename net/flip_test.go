package net_test

import (
	"bytes"
	"testing"

	"culvert/api"
)

// noXs are numbers that a byte is not flipped by.
func noXs() []int {
	return []int{0, -1, -2, -128, -255, -256, -257, 256, 257, 511, 512, 65535, 65537, 1<<32 + 1, 1<<32 - 1, leastInt, leastInt + 1, greatestInt}
}

// noPlaces are places that so many bytes do not have.
func noPlaces(size int) []int {
	return []int{-1, -2, -size, -size - 1, size, size + 1, size + 7, 2*size + 1, size + 256, 1 << 31, 1 << 32, 1<<32 + 1, leastInt, leastInt + 1, greatestInt}
}

// P21.5: each x at each place, the first one and the last one too: just this byte of just this flight changes, and the same flip once more undoes it.
func TestFlip(t *testing.T) {
	for _, size := range []int{1, 2, 3, 17} {
		n := newNet(t)
		b := numbered(99, size)
		for no := 1; no <= 3; no++ {
			wantSend(t, n, no, b, no)
		}
		for at := range size {
			for x := 1; x <= 255; x++ {
				want := bytes.Clone(b)
				want[at] ^= byte(x)
				wantFlip(t, n, 2, at, x, api.OK)
				wantUnder(t, n, flight(1, 1, b), flight(2, 2, want), flight(3, 3, b))
				wantFlip(t, n, 2, at, x, api.OK)
				wantUnder(t, n, flight(1, 1, b), flight(2, 2, b), flight(3, 3, b))
			}
		}
	}
}

// P21.5: each value of a byte by each x.
func TestFlipEachByte(t *testing.T) {
	n := newNet(t)
	all := make([]byte, 256)
	for i := range all {
		all[i] = byte(i)
	}
	for x := 1; x <= 255; x++ {
		wantSend(t, n, 0, all, x)
		want := make([]byte, 256)
		for i := range want {
			wantFlip(t, n, x, i, x, api.OK)
			want[i] = byte(i ^ x)
		}
		wantTake(t, n, flight(x, 0, want))
	}
}

// P21.5: flips come together: those of one place too.
func TestFlipsTogether(t *testing.T) {
	n := newNet(t)
	wantSend(t, n, 0, []byte{0, 0, 0}, 1)
	for _, f := range []struct {
		at, x int
		want  []byte
	}{
		{0, 1, []byte{1, 0, 0}}, {0, 2, []byte{3, 0, 0}}, {0, 255, []byte{0xFC, 0, 0}}, {2, 0x80, []byte{0xFC, 0, 0x80}},
		{1, 0x80, []byte{0xFC, 0x80, 0x80}}, {2, 0x81, []byte{0xFC, 0x80, 1}}, {0, 0xFC, []byte{0, 0x80, 1}}, {2, 1, []byte{0, 0x80, 0}}, {1, 128, []byte{0, 0, 0}},
	} {
		wantFlip(t, n, 1, f.at, f.x, api.OK)
		wantUnder(t, n, flight(1, 0, f.want))
	}
	wantTake(t, n, flight(1, 0, []byte{0, 0, 0}))
}

// P21.5: ErrArg at each place that there is none, at each x that may not be, and at both; the flight stays as it was.
func TestFlipErrArg(t *testing.T) {
	for _, size := range []int{0, 1, 2, 100} {
		n := newNet(t)
		b := numbered(5, size)
		wantSend(t, n, 1, b, 1)
		wantSend(t, n, 2, numbered(6, 300), 2)
		var places []int
		for _, at := range noPlaces(size) {
			if at >= 0 && at < size {
				t.Fatalf("%d bytes have the place %d", size, at)
			}
			for _, x := range []int{1, 2, 128, 254, 255} {
				wantFlip(t, n, 1, at, x, noArg)
			}
			places = append(places, at)
		}
		for at := range size {
			places = append(places, at)
		}
		for _, at := range places {
			for _, x := range noXs() {
				wantFlip(t, n, 1, at, x, noArg)
			}
		}
		wantUnder(t, n, flight(1, 1, b), flight(2, 2, numbered(6, 300)))
	}
}

// P21.5: the edges one by one: the last byte and the one behind it, x at 1 and 255 and beyond them.
func TestFlipEdges(t *testing.T) {
	n := newNet(t)
	wantSend(t, n, 1, []byte{7, 8}, 1)
	wantFlip(t, n, 1, 0, 1, api.OK)
	wantFlip(t, n, 1, 1, 255, api.OK)
	wantUnder(t, n, flight(1, 1, []byte{6, 0xF7}))
	wantFlip(t, n, 1, 2, 1, noArg)
	wantFlip(t, n, 1, -1, 1, noArg)
	wantFlip(t, n, 1, 0, 0, noArg)
	wantFlip(t, n, 1, 1, 256, noArg)
	wantFlip(t, n, 1, 1, -1, noArg)
	wantUnder(t, n, flight(1, 1, []byte{6, 0xF7}))
}

// P21.5: ErrNoFlight comes ahead of ErrArg: without a flight nothing is asked of at and x.
func TestFlipNoFlightFirst(t *testing.T) {
	n, all := filled(t, 4)
	wantTake(t, n, all[1])
	wantDrop(t, n, 3)
	for _, no := range []int{0, -1, 2, 3, 5, 6, 1 << 32, 1<<32 + 1, leastInt, greatestInt} {
		for _, at := range append(noPlaces(4), 0, 1, 3) {
			for _, x := range append(noXs(), 1, 255) {
				wantFlip(t, n, no, at, x, noFlight)
			}
		}
	}
	wantUnder(t, n, all[0], all[3])
}

// P21.5: a flight without bytes has no place.
func TestFlipOfNoBytes(t *testing.T) {
	n := newNet(t)
	wantSend(t, n, 0, nil, 1)
	wantSend(t, n, 0, []byte{}, 2)
	wantSend(t, n, 0, make([]byte, 0, 50), 3)
	for no := 1; no <= 3; no++ {
		for _, at := range append(noPlaces(0), 0, 1) {
			for _, x := range []int{0, 1, 255, 256} {
				wantFlip(t, n, no, at, x, noArg)
			}
		}
	}
	wantUnder(t, n, flight(1, 0, nil), flight(2, 0, nil), flight(3, 0, nil))
}

// P21.5: the spare room of what was sent is no place.
func TestFlipOfSpareRoom(t *testing.T) {
	n := newNet(t)
	b := numbered(1, 100)
	wantSend(t, n, 0, b[:10], 1)
	for at := 10; at < 100; at++ {
		wantFlip(t, n, 1, at, 1, noArg)
	}
	wantUnder(t, n, flight(1, 0, numbered(1, 10)))
}

// P21.5: in a full net with the same bytes over and over each flight is flipped by itself.
func TestFlipOneOfMany(t *testing.T) {
	n := newNet(t)
	b := []byte{1, 2, 3, 4}
	var all []api.Flight
	for no := 1; no <= most; no++ {
		if no%2 == 1 {
			wantSend(t, n, 1, b, no)
		} else {
			wantCopy(t, n, no-1, no, api.OK)
		}
		all = append(all, flight(no, 1, bytes.Clone(b)))
	}
	for no := 1; no <= most; no += 3 {
		wantFlip(t, n, no, no%4, 1+no%255, api.OK)
		all[no-1].Data[no%4] ^= byte(1 + no%255)
		if no%100 < 3 {
			wantUnder(t, n, all...)
		}
	}
	wantUnder(t, n, all...)
	for _, f := range all {
		wantTake(t, n, f)
	}
}

// P21.5: no call but Flip changes the bytes of a flight, and Flip changes neither its number nor where it goes.
func TestFlippedStays(t *testing.T) {
	n, all := filled(t, 6)
	wantFlip(t, n, 4, 2, 9, api.OK)
	all[3].Data[2] ^= 9
	wantSend(t, n, 4, []byte("more"), 7)
	wantCopy(t, n, 5, 8, api.OK)
	wantTake(t, n, all[0])
	wantDrop(t, n, 2)
	n.Under()
	wantUnder(t, n, all[2], all[3], all[4], all[5], flight(7, 4, []byte("more")), flight(8, all[4].To, all[4].Data))
	wantTake(t, n, all[3])
}
