package sector_test

import (
	"bytes"
	"math"
	"testing"
)

// P11.3: what Put answers, for many sectors.
func TestGetOfSamples(t *testing.T) {
	for _, s := range sampleSectors(4) {
		wantGet(t, plainPut(s), s)
	}
	for place := range maxPlace + 1 {
		s := sectorOf("CVD1", 3, 4, place, []byte("abc"))
		wantGet(t, plainPut(s), s)
	}
	for n := range bodySize + 1 {
		for _, body := range [][]byte{counted(1, 7, n), make([]byte, n)} {
			s := sectorOf("CVC1", 3, 4, 5, body)
			wantGet(t, plainPut(s), s)
		}
	}
}

// P11.3: tags that may not be, with the sum made right.
func TestGetOfTags(t *testing.T) {
	for _, tag := range tags {
		wantGet(t, laid(tag, 1, 2, 3, 3, 0, []byte("abc")), sectorOf(tag, 1, 2, 3, []byte("abc")))
	}
	for _, tag := range nearTags() {
		if len(tag) == 4 {
			wantNoGet(t, laid(tag, 1, 2, 3, 3, 0, []byte("abc")))
		}
	}
}

// rawSeqs are what eight bytes may tell, at the bounds and beyond them: also what no int can hold.
func rawSeqs() []uint64 {
	out := []uint64{0, maxSeq, maxSeq + 1, math.MaxInt64, 1 << 63, 1<<63 + 1, 1<<63 + maxSeq, 1<<63 + maxSeq + 1, math.MaxUint64 - 1, math.MaxUint64}
	for n := range 64 {
		out = append(out, 1<<n-1, 1<<n, 1<<n+1, 1<<63|1<<n)
	}
	return out
}

// P11.3: epochs and seqs at the bounds and beyond them, with the sum made right.
func TestGetOfSeqs(t *testing.T) {
	for _, x := range rawSeqs() {
		for _, b := range [][]byte{
			laid("CVO1", x, 2, 3, 3, 0, []byte("abc")), laid("CVO1", 2, x, 3, 3, 0, []byte("abc")), laid("CVS1", x, x, 0, 0, 0, nil),
			laid("CVD1", x, maxSeq, maxPlace, 480, 0, counted(1, 1, 480)), laid("CVD1", maxSeq, x, maxPlace, 480, 0, counted(1, 1, 480)),
		} {
			wantGetAsPlain(t, b)
		}
	}
	wantNoGet(t, laid("CVO1", 0, 2, 3, 3, 0, []byte("abc")))
	wantNoGet(t, laid("CVO1", 1, 0, 3, 3, 0, []byte("abc")))
	wantNoGet(t, laid("CVO1", maxSeq+1, 2, 3, 3, 0, []byte("abc")))
	wantNoGet(t, laid("CVO1", 1, maxSeq+1, 3, 3, 0, []byte("abc")))
	wantNoGet(t, laid("CVO1", 1<<63+1, 2, 3, 3, 0, []byte("abc")))
	wantNoGet(t, laid("CVO1", 1, 1<<63+1, 3, 3, 0, []byte("abc")))
	wantNoGet(t, laid("CVO1", math.MaxUint64, math.MaxUint64, 3, 3, 0, []byte("abc")))
}

// P11.3: all places, as many beyond them, and greater ones, with the sum made right.
func TestGetOfPlaces(t *testing.T) {
	for x := range uint32(2 * (maxPlace + 1)) {
		wantGetAsPlain(t, laid("CVO1", 1, 2, x, 3, 0, []byte("abc")))
	}
	for _, x := range []uint32{8192, 16384, 65536, 1 << 24, 1<<24 + 3, 1<<31 - 1, 1 << 31, 1<<31 + 3, 1<<32 - 1, 1<<32 - 3} {
		wantNoGet(t, laid("CVO1", 1, 2, x, 3, 0, []byte("abc")))
	}
}

// P11.3: all lengths that two bytes may tell, over no bytes that are not 0, over three, and over all of them, with the sum made right.
func TestGetOfUsedLengths(t *testing.T) {
	for _, body := range [][]byte{nil, []byte("abc"), counted(1, 2, bodySize)} {
		for used := range 1 << 16 {
			b := laid("CVO1", 1, 2, 3, uint16(used), 0, body)
			if used <= bodySize && used >= len(body) {
				wantGet(t, b, sectorOf("CVO1", 1, 2, 3, b[28:28+used]))
			} else {
				wantNoGet(t, b)
			}
		}
	}
}

// P11.3: the bytes 26 and 27 not zero, with the sum made right.
func TestGetWithZerosTurned(t *testing.T) {
	for x := 1; x < 256; x++ {
		for _, zeros := range []int{x, x << 8, x<<8 | x} {
			wantNoGet(t, laid("CVO1", 1, 2, 3, 3, uint16(zeros), []byte("abc")))
			wantNoGet(t, laid("CVS1", maxSeq, maxSeq, maxPlace, 0, uint16(zeros), nil))
			wantNoGet(t, laid("CVD1", 1, 1, 0, 480, uint16(zeros), make([]byte, 480)))
		}
	}
}

// P11.3: a byte behind what is used not zero, with the sum made right: each of them, behind bodies of many lengths.
func TestGetWithSomethingBehindTheBody(t *testing.T) {
	for _, n := range []int{0, 1, 2, 3, 100, 255, 256, 478, 479, 480} {
		s := sectorOf("CVD1", 1, 2, 3, counted(9, 5, n))
		b := plainPut(s)
		for at := 28 + n; at < 508; at++ {
			for _, x := range []byte{1, 16, 128, 255} {
				wantNoGet(t, summed(with(b, at, x)))
			}
		}
	}
}

// P11.3: bytes of all lengths about the right one, and much longer ones.
func TestGetOfLengths(t *testing.T) {
	s := sectorOf("CVC1", 5, 6, 7, counted(1, 7, bodySize))
	long := append(plainPut(s), make([]byte, 600)...)
	for n := range len(long) + 1 {
		if n == size {
			wantGet(t, long[:n], s)
			continue
		}
		wantNoGet(t, long[:n])
		wantNoGet(t, bytes.Clone(long[:n]))
	}
	wantNoGet(t, nil)
	wantNoGet(t, []byte{})
	wantNoGet(t, append(plainPut(s), plainPut(s)...))
	wantNoGet(t, append(plainPut(s), make([]byte, 1<<20)...))
	wantNoGet(t, make([]byte, 1<<20))
}

// P11.3: bytes of one kind over and over, and any bytes, with the sum as it is and with the sum made right.
func TestGetOfAnyBytes(t *testing.T) {
	for x := range 256 {
		b := bytes.Repeat([]byte{byte(x)}, size)
		wantNoGet(t, b)
		wantNoGet(t, summed(b))
	}
	s := newSampler(5)
	for range 5000 {
		b := s.list(size)
		wantGetAsPlain(t, b)
		wantGetAsPlain(t, summed(b))
		copy(b, tags[s.IntN(4)])
		wantGetAsPlain(t, summed(b))
		copy(b[4:], make([]byte, 22)) // numbers that are small, at a few places not even that
		b[4+s.IntN(22)], b[11], b[19] = byte(s.Uint32()), 1, 1
		wantGetAsPlain(t, summed(b))
	}
}

// P11.3: each byte of some sectors turned into each other one, with the sum made right: some of these are sectors, and others are none's.
func TestGetOfEachByteTurned(t *testing.T) {
	for _, s := range edgeForms() {
		b := plainPut(s)
		for at := range size - 4 {
			for x := 1; x < 256; x++ {
				wantGetAsPlain(t, summed(with(b, at, b[at]^byte(x))))
			}
		}
	}
}
