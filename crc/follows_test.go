package crc_test

import (
	"bytes"
	"math/bits"
	"math/rand/v2"
	"testing"

	"culvert/crc"
)

// turned is b with the bits at these places turned; the bits are counted from the first byte on, in each byte from its lowest bit on.
func turned(b []byte, places ...int) []byte {
	out := bytes.Clone(b)
	for _, p := range places {
		out[p/8] ^= 1 << (p % 8)
	}
	return out
}

// turnedWithin is b with the bits of pattern turned, its lowest bit at place.
func turnedWithin(b []byte, place int, pattern uint32) []byte {
	out := bytes.Clone(b)
	for ; pattern != 0; pattern >>= 1 {
		if pattern&1 == 1 {
			out[place/8] ^= 1 << (place % 8)
		}
		place++
	}
	return out
}

// P2.5: bits within 32 neighbouring places, each pattern that is tried at each place.
func TestNeighbouringBitsAreSeen(t *testing.T) {
	r := rand.New(rand.NewPCG(6, 6))
	for n := 1; n <= 24; n++ {
		b := someBytes(6, n)
		s := crc.Sum(b)
		for place := range 8 * n {
			wide := min(32, 8*n-place)
			for range 40 {
				pattern := r.Uint32()>>(32-wide) | 1 | 1<<(wide-1)
				if crc.Sum(turnedWithin(b, place, pattern)) == s {
					t.Fatalf("%X, pattern %X turned at %d: the same sum", b, pattern, place)
				}
			}
		}
	}
}

// P2.5: all patterns of 16 neighbouring places.
func TestAllPatternsOfTwoBytesAreSeen(t *testing.T) {
	b := someBytes(7, 5)
	s := crc.Sum(b)
	for place := 0; place <= 8*len(b)-16; place++ {
		for pattern := uint32(1); pattern < 1<<16; pattern += 2 {
			if crc.Sum(turnedWithin(b, place, pattern)) == s {
				t.Fatalf("pattern %X turned at %d: the same sum", pattern, place)
			}
		}
	}
}

// P2.5: no pattern at all of 32 neighbouring places is unseen. What turned bits do to a sum is the xor of what each does, so it is enough that none of the 32 is made by xoring others.
func TestNoPatternOf32PlacesIsUnseen(t *testing.T) {
	b := someBytes(8, 40)
	s := crc.Sum(b)
	for place := 0; place <= 8*len(b)-32; place++ {
		var byTop [32]uint32
		for i := range 32 {
			x := crc.Sum(turned(b, place+i)) ^ s
			for x != 0 && byTop[bits.Len32(x)-1] != 0 {
				x ^= byTop[bits.Len32(x)-1]
			}
			if x == 0 {
				t.Fatalf("bit %d of the 32 from %d on is made by others", i, place)
			}
			byTop[bits.Len32(x)-1] = x
		}
	}
}

// P2.5: an odd number of bits, near and far.
func TestOddNumbersOfBitsAreSeen(t *testing.T) {
	r := rand.New(rand.NewPCG(9, 9))
	for n := 1; n <= 200; n++ {
		b := someBytes(9, n)
		s := crc.Sum(b)
		for odd := 1; odd <= min(8*n, 41); odd += 2 {
			if crc.Sum(turned(b, r.Perm(8 * n)[:odd]...)) == s {
				t.Fatalf("%d of %d bits turned: the same sum", odd, 8*n)
			}
		}
	}
	for pattern := range 1 << 16 {
		if bits.OnesCount(uint(pattern))%2 == 1 && crc.Sum([]byte{byte(pattern), byte(pattern >> 8)}) == crc.Sum(make([]byte, 2)) {
			t.Fatalf("pattern %X of two bytes: the same sum", pattern)
		}
	}
}

// P2.5: any two bits. Two lists with one bit each turned in the same bytes differ in just two bits: so all of them must have unlike sums.
func TestTwoBitsAreSeen(t *testing.T) {
	b := someBytes(10, 2500)
	seen := map[uint32]int{}
	for place := range 8 * len(b) {
		s := crc.Sum(turned(b, place))
		if other, ok := seen[s]; ok {
			t.Fatalf("bits %d and %d turned: the same sum", other, place)
		}
		seen[s] = place
	}
}

// P2.5: two bits as far apart as they can be. Between them lies a run of zeros, walked through whole, a piece at a time.
func TestTwoBitsFarApartAreSeen(t *testing.T) {
	const between = 1<<28 - 3
	zeros := make([]byte, 1<<16)
	first, none := crc.Sum([]byte{1}), crc.Sum([]byte{0})
	for left := between; left > 0; left -= len(zeros) {
		piece := zeros[:min(left, len(zeros))]
		first, none = crc.Update(first, piece), crc.Update(none, piece)
	}
	for i := range 8 {
		if crc.Update(first, []byte{1 << i}) == crc.Update(none, []byte{0}) {
			t.Errorf("the first bit and bit %d of the last byte turned: the same sum", i)
		}
	}
	run := none ^ crc.Join(crc.Sum([]byte{0}), 0, between)
	wantSum(t, "Join with the run of zeros", crc.Join(crc.Sum([]byte{1}), run, between), first)
}

// P2.5: three lists of one length.
func TestThreeListsOfOneLength(t *testing.T) {
	for n := range 300 {
		x, y, z := someBytes(11, n), someBytes(12, n), someBytes(13, n)
		all := make([]byte, n)
		for i := range all {
			all[i] = x[i] ^ y[i] ^ z[i]
		}
		wantSum(t, "the sum of three", crc.Sum(all), crc.Sum(x)^crc.Sum(y)^crc.Sum(z))
	}
}

// P2.6: bytes with their own sum behind them, the lowest byte first.
func TestSumBehindItsBytes(t *testing.T) {
	for n := range 600 {
		b := someBytes(14, n)
		s := crc.Sum(b)
		b = append(b, byte(s), byte(s>>8), byte(s>>16), byte(s>>24))
		wantSum(t, "bytes with their sum", crc.Sum(b), 0x48674BC7)
	}
}
