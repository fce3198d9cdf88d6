package audit_test

import (
	"bytes"
	"fmt"
	"math"
	"testing"
)

// oddSuper is what may stand in the sector of a superblock, and whether it counts there.
type oddSuper struct {
	what   string
	sector []byte
	counts bool
}

// supersAt are sectors for the sector at (0 or 1) of a device of n sectors. The epoch and the seq are those that a superblock there may have.
func supersAt(n, at, epoch, seq int) []oddSuper {
	room := (n - 2) / 2
	most := room - 11 // pieces
	sum := plainSum(nil)
	empty := superBody(n, 0, 0, sum)
	of := func(tag string, epoch, seq, place int, body []byte) []byte { return sec(tag, epoch, seq, place, body) }
	body := func(body []byte) []byte { return of("CVS1", epoch, seq, at, body) }
	right := body(empty)
	out := []oddSuper{
		{"zeros", make([]byte, size), true},
		{"a superblock", right, true},
		{"of another sum", body(superBody(n, 0, 0, 7)), true}, // it counts, though it is never taken
		{"of the seq 1", of("CVS1", epoch, 1, at, empty), true},
		{"of the greatest seq", of("CVS1", epoch, maxSeq, at, empty), true},
		{"of the least epoch", of("CVS1", 2-at, seq, at, empty), true},
		{"of the greatest epoch there", of("CVS1", maxSeq-at, seq, at, empty), true},
		{"of one byte", body(superBody(n, 1, 1, 9)), true},
		{"of a full piece", body(superBody(n, 1, 480, 9)), true},
		{"of as much as has room", body(superBody(n, most, most*480, 9)), true},
		{"of the least in so many pieces", body(superBody(n, most, most*480-479, 9)), true},

		{"of a piece more", body(superBody(n, most+1, (most+1)*480, 9)), false},
		{"of a byte more than has room", body(superBody(n, most+1, most*480+1, 9)), false},
		{"of many pieces", body(superBody(n, plainPieces(math.MaxUint32), math.MaxUint32, 9)), false},
		{"of the epoch of the other sector", of("CVS1", epoch+1, seq, at, empty), false},
		{"of the other place", of("CVS1", epoch, seq, 1-at, empty), false},
		{"of another place", of("CVS1", epoch, seq, at+2, empty), false},
		{"with a byte more", body(append(bytes.Clone(empty), 0)), false},
		{"with a byte less", body(empty[:15]), false},
		{"with no body", body(nil), false},
		{"with a full body", body(append(bytes.Clone(empty), make([]byte, 464)...)), false},
		{"of a sector more", body(superBody(n+1, 0, 0, sum)), false},
		{"of a sector less", body(superBody(n-1, 0, 0, sum)), false},
		{"of no sectors", body(superBody(0, 0, 0, sum)), false},
		{"of a piece too many", body(superBody(n, 1, 0, sum)), false},
		{"of a piece too few", body(superBody(n, 0, 1, sum)), false},
		{"of a piece too few for a byte", body(superBody(n, 1, 481, sum)), false},
		{"of pieces without end", body(superBody(n, math.MaxUint32, 0, sum)), false},
		{"of the epoch 0", raw("CVS1", 0, uint64(seq), uint32(at), 16, 0, empty), false},
		{"of an epoch beyond", raw("CVS1", maxSeq+2-uint64(at), uint64(seq), uint32(at), 16, 0, empty), false},
		{"of the seq 0", raw("CVS1", uint64(epoch), 0, uint32(at), 16, 0, empty), false},
		{"of a seq beyond", raw("CVS1", uint64(epoch), maxSeq+1, uint32(at), 16, 0, empty), false},
		{"with something in the zeros", raw("CVS1", uint64(epoch), uint64(seq), uint32(at), 16, 1, empty), false},
		{"with something behind the body", raw("CVS1", uint64(epoch), uint64(seq), uint32(at), 16, 0, append(bytes.Clone(empty), 1)), false},
		{"with another sum of the sector", turned(right, 511, 1), false},
		{"turned", turned(right, 40, 0x80), false},
		{"one byte alone", turned(make([]byte, size), 300, 1), false},
		{"the last byte alone", turned(make([]byte, size), 511, 1), false},
		{"the first byte alone", turned(make([]byte, size), 0, 'C'), false},
		{"all ones", bytes.Repeat([]byte{0xFF}, size), false},
	}
	for _, tag := range []string{"CVD1", "CVC1", "CVO1", "CVS2", "cvs1", "\x00\x00\x00\x00"} {
		out = append(out, oddSuper{"of the tag " + tag, of(tag, epoch, seq, at, empty), false})
	}
	return out
}

// P24.2: the sectors 0 and 1, each by itself: zeros, what counts, what does not. No superblock is taken beside it but where one that counts is.
func TestSupers(t *testing.T) {
	t.Parallel()
	for _, n := range []int{32, 33, 47, 64} {
		for at := range 2 {
			for _, c := range supersAt(n, at, 6+at, 9) {
				what := fmt.Sprintf("%d sectors: in the sector %d a superblock %s", n, at, c.what)
				m := zeros(n).with(at, c.sector)
				want := []string{}
				if !c.counts {
					want = append(want, fmt.Sprintf("super %d", at))
				}
				if plainLog(m).epoch == 0 {
					want = append(want, "state 110")
				}
				wantLines(t, what, m.bytes(), want...)
				wantPlain(t, what, m.bytes())
			}
		}
	}
}

// P24.2: both sectors at once: each is told of by itself, and the other one is taken where it is right.
func TestBothSupers(t *testing.T) {
	t.Parallel()
	n := 33
	for _, a := range supersAt(n, 0, 6, 9) {
		for _, b := range supersAt(n, 1, 7, 9) {
			what := fmt.Sprintf("superblocks %s, %s", a.what, b.what)
			m := zeros(n).with(0, a.sector).with(1, b.sector)
			want := []string{}
			if !a.counts {
				want = append(want, "super 0")
			}
			if !b.counts {
				want = append(want, "super 1")
			}
			if plainLog(m).epoch == 0 {
				want = append(want, "state 110")
			}
			if got := checkOf(m.bytes()); !got.same(checked{lines: want}) {
				t.Fatalf("%s: Check = %v, want %q", what, got, want)
			}
		}
	}
}

// P24.2: the sizes of a device: a superblock says its own one.
func TestSupersOfSizes(t *testing.T) {
	t.Parallel()
	for _, n := range []int{32, 33, 34, 8191, 8192} {
		for _, says := range []int{32, 33, 34, 8191, 8192} {
			m := zeros(n).with(1, superFor(says, 1, 1, nil))
			if says == n {
				wantLines(t, fmt.Sprintf("%d sectors", n), m.bytes())
			} else {
				wantLines(t, fmt.Sprintf("%d sectors, of which the superblock says %d", n, says), m.bytes(), "super 1", "state 110")
			}
		}
	}
	// The most that a region of the greatest device has room for.
	most := 4095 - 11
	for k, want := range map[int][]string{most: {"state 110"}, most + 1: {"super 0", "state 110"}} {
		m := zeros(8192).with(0, sec("CVS1", 2, 1, 0, superBody(8192, k, k*480, 9)))
		wantLines(t, fmt.Sprintf("%d pieces", k), m.bytes(), want...)
	}
}
