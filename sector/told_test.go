package sector_test

import (
	"bytes"
	"testing"

	"culvert/api"
	"culvert/sector"
)

// wantRefused says that neither Get nor Right takes the bytes; it is asked very often, so it tells nothing but where it fails.
func wantRefused(t *testing.T, b []byte, own api.Sector) {
	if s, e := sector.Get(b); e != api.ErrForm || !same(s, api.Sector{}) {
		t.Errorf("%s: Get = %s, %d", brief(b), told(s), e)
	}
	if body, ok := right(b, own); ok || len(body) != 0 {
		t.Errorf("%s: Right for %s = %s, %v", brief(b), told(asked(own)), brief(body), ok)
	}
}

// P11.6: each byte of a sector, those of the sum too, turned into each other one.
func TestEachByteTurned(t *testing.T) {
	for _, s := range edgeForms() {
		t.Run(s.Tag, func(t *testing.T) {
			t.Parallel()
			b := plainPut(s)
			for at := range b {
				was := b[at]
				for x := 1; x < 256; x++ {
					b[at] = was ^ byte(x)
					wantRefused(t, b, s)
				}
				b[at] = was
			}
		})
	}
}

// P11.6: a byte of many sectors turned into another one.
func TestAByteTurnedOfSamples(t *testing.T) {
	s := newSampler(10)
	for range 20000 {
		own := s.sector()
		b := plainPut(own)
		at := s.IntN(size) >> s.IntN(9)
		b[at] ^= byte(1 + s.IntN(255))
		wantRefused(t, b, own)
	}
}

// turned is the bytes with bits turned: bit i of the pattern is the bit first + i, the bits of each byte counted from its lowest one.
func turned(b []byte, first int, pattern uint32) []byte {
	out := bytes.Clone(b)
	for i := range 32 {
		if pattern>>i&1 == 1 {
			out[(first+i)/8] ^= 1 << ((first + i) % 8)
		}
	}
	return out
}

const (
	bitsSummed = 508 * 8
	lastWindow = bitsSummed - 32 // where the last 32 neighbouring bits begin
)

// P11.6: bits turned within 32 neighbouring ones, wherever these begin: the first and the last of them, all, every other one, and any.
func TestBitsTurnedEverywhere(t *testing.T) {
	for i, own := range edgeForms() {
		t.Run(own.Tag, func(t *testing.T) {
			t.Parallel()
			s := newSampler(20 + uint64(i))
			b := plainPut(own)
			for first := range lastWindow + 1 {
				for _, pattern := range []uint32{1, 1 << 31, 3, 1<<31 | 1, 1<<32 - 1, 0x55555555, s.Uint32() | 1, s.Uint32() | 1<<31, s.Uint32()&s.Uint32() | 1} {
					wantRefused(t, turned(b, first, pattern), own)
				}
			}
		})
	}
}

// P11.6: all patterns of a few neighbouring bits, and many of 32, at the beginning, in the middle, over the edges of bytes and of fields, and at the end.
func TestBitsTurnedAtTheEdges(t *testing.T) {
	places := []int{0, 1, 7, 8, 4*8 - 16, 4 * 8, 12*8 - 5, 20*8 - 16, 24*8 - 1, 26*8 - 9, 28*8 - 31, 28 * 8, 31*8 - 3, 254*8 + 3, 255 * 8, lastWindow - 8, lastWindow - 1, lastWindow}
	for i, own := range edgeForms() {
		t.Run(own.Tag, func(t *testing.T) {
			t.Parallel()
			s := newSampler(30 + uint64(i))
			b := plainPut(own)
			for _, first := range places {
				for pattern := uint32(1); pattern < 1<<10; pattern++ {
					wantRefused(t, turned(b, first, pattern), own)
					wantRefused(t, turned(b, first, pattern<<22), own)
				}
				for range 500 {
					wantRefused(t, turned(b, first, s.Uint32()|1), own)
				}
			}
		})
	}
}

// P11.6: bits turned of many sectors.
func TestBitsTurnedOfSamples(t *testing.T) {
	s := newSampler(40)
	for range 20000 {
		own := s.sector()
		first := s.IntN(lastWindow + 1)
		wantRefused(t, turned(plainPut(own), first, s.Uint32()|1<<s.IntN(32)), own)
	}
}

// P11.6: of more nothing is said: what has the sum made right is taken, where it is a sector.
func TestASumCanBeMadeRight(t *testing.T) {
	b := summed(with(plainPut(example()), 29, 'x'))
	wantGet(t, b, sectorOf("CVO1", 1, 2, 3, []byte("axc")))
	wantRight(t, b, example(), []byte("axc"))
}
