package world_test

import (
	"bytes"
	"fmt"
	"testing"
)

// P23.3: junk goes to the node that it names, as it is: none at all, up to MaxJunk bytes; one more is ErrArg.
func TestJunk(t *testing.T) {
	t.Parallel()
	x := begin(t, 64)
	no := 0
	for a := range 2 {
		for _, size := range []int{0, 1, 2, 48, 1316, 1317, maxJunk - 1, maxJunk} {
			b := bytes.Repeat([]byte{byte(size), 7, byte(a)}, size/3+1)[:size]
			no++
			x.does(junk(a, b), fmt.Sprintf("sent -1 0 %d", no))
			if f := x.flight(no); f.To != a || !bytes.Equal(f.Data, b) {
				x.fail("%d bytes to %d", len(f.Data), f.To)
			}
		}
		for _, size := range []int{maxJunk + 1, maxJunk + 2, 2 * maxJunk, 65536, 1 << 20} {
			x.wantRefused(junk(a, make([]byte, size)), a, errArg)
		}
	}
	for _, a := range oddNodes() {
		x.wantRefused(junk(a, nil), a, errArg)
		x.wantRefused(junk(a, make([]byte, maxJunk)), a, errArg)
		x.wantRefused(junk(a, make([]byte, maxJunk+1)), a, errArg)
	}
}

// P23.3: the longest junk comes as it is, and is dropped; so is no junk at all.
func TestJunkComes(t *testing.T) {
	t.Parallel()
	x := laid(t, 64)
	x.does(junk(1, make([]byte, maxJunk)), "sent -1 0 1")
	x.does(junk(0, nil), "sent -1 0 2")
	x.says("run 1", "dropped 1 210; dropped 0 210")
}

// P23.3: valid packets as junk: such as the other side makes, such as it has made, and such as the node itself has made.
func TestValidJunk(t *testing.T) {
	t.Parallel()
	for a := range 2 {
		b := 1 - a
		x := laid(t, 64)
		own, other := pay(fmt.Sprintf("10.%d.0.1", a), fmt.Sprintf("10.%d.0.1", b), "own"), pay(fmt.Sprintf("10.%d.0.1", b), fmt.Sprintf("10.%d.0.1", a), "other")
		// Made by the script: the other side's key is known to it.
		x.does(junk(a, sealed(key(1), b, headOf(pkData, 7, 1, 5), other)), "sent -1 0 1")
		x.does(give(1), fmt.Sprintf("delivered %d 7 %x", a, other))
		// What a node has sent comes again, by the same hand or back to itself.
		x.does(sendOf(a, own), fmt.Sprintf("sent %d 7 2", a))
		packet := x.flight(2).Data
		x.does(junk(a, packet), "sent -1 0 3")
		x.does(junk(b, packet), "sent -1 0 4")
		x.does(give(3), fmt.Sprintf("dropped %d 214", a))
		x.does(give(4), fmt.Sprintf("delivered %d 7 %x", b, own))
		x.does(give(2), fmt.Sprintf("dropped %d 213", b))
		// An init that comes back to its node, and one of the greatest generation.
		x.says(fmt.Sprintf("tick %d 5.000000000", a), fmt.Sprintf("done %d", a))
		x.says(fmt.Sprintf("rekey %d 7", a), fmt.Sprintf("sent %d 7 5", a))
		x.does(junk(a, x.flight(5).Data), "sent -1 0 6")
		x.does(give(6), fmt.Sprintf("dropped %d 214", a))
		x.does(junk(b, sealed(key(1), a, headOf(pkInit, 7, maxGen, maxCounter), stampBytes(stampOf(maxSec, maxNano)))), "sent -1 0 7")
		x.does(give(7), fmt.Sprintf("sent %d 7 8", b))
		x.does(give(5), fmt.Sprintf("dropped %d 212", b))
		x.says(fmt.Sprintf("rekey %d 7", b), fmt.Sprintf("refused %d 168", b)) // no generation is left
		x.does(give(8), fmt.Sprintf("dropped %d 212", a))
	}
}
