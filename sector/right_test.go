package sector_test

import (
	"bytes"
	"encoding/binary"
	"math"
	"testing"

	"culvert/api"
	"culvert/sector"
)

// P11.2: its own tag, epoch, seq and place, and each of the four turned by itself.
func TestRightOfItsOwn(t *testing.T) {
	s := sectorOf("CVD1", 77, 88, 99, []byte("a body"))
	b := plainPut(s)
	wantRight(t, b, s, []byte("a body"))
	for _, tag := range append([]string{"CVS1", "CVC1", "CVO1"}, nearTags()...) {
		wantNotRight(t, b, sectorOf(tag, 77, 88, 99, nil))
	}
	for _, x := range append([]int{76, 78, 88, 99, -77, 77 + 256, 77 + 1<<32, 77 - 1<<62, 77 + math.MinInt}, edgeSeqs()...) {
		wantNotRight(t, b, sectorOf("CVD1", x, 88, 99, nil))
	}
	for _, x := range append([]int{87, 89, 77, 99, -88, 88 + 256, 88 + 1<<32, 88 - 1<<62, 88 + math.MinInt}, edgeSeqs()...) {
		wantNotRight(t, b, sectorOf("CVD1", 77, x, 99, nil))
	}
	for _, x := range append([]int{98, 100, 77, 88, -99, 99 + 256, 99 + 8192, 99 + 1<<32, 99 - 1<<32, 99 + math.MinInt}, edgePlaces()...) {
		wantNotRight(t, b, sectorOf("CVD1", 77, 88, x, nil))
	}
	wantNotRight(t, b, api.Sector{})
}

// grid is all sectors of some tags, epochs, seqs and places with each other, of which some may not be.
func grid() []api.Sector {
	var out []api.Sector
	for _, tag := range append([]string{"", "CVX1"}, tags...) {
		for _, epoch := range []int{-1, 0, 1, 2, maxSeq, maxSeq + 1} {
			for _, seq := range []int{-1, 0, 1, 2, maxSeq, maxSeq + 1} {
				for _, place := range []int{-1, 0, 1, maxPlace, maxPlace + 1} {
					out = append(out, sectorOf(tag, epoch, seq, place, []byte("of a grid")))
				}
			}
		}
	}
	return out
}

// P11.2, P11.5: what is right for one tag, epoch, seq and place is right for no others of a grid, nor is anything right for those of which no sector may be.
func TestRightOfAGrid(t *testing.T) {
	all := grid()
	for _, s := range all {
		// Forged where no sector may be so: the bytes that its numbers would have.
		b := plainPut(sectorOf((s.Tag + "\x00\x00\x00\x00")[:4], s.Epoch, s.Seq, s.Place, s.Body))
		for _, ask := range all {
			got, ok := right(b, ask)
			if want := plainMayBe(s) && same(s, ask); ok != want || want != bytes.Equal(got, s.Body) || !want && len(got) != 0 {
				t.Errorf("of the bytes of %s Right for %s = %q, %v", told(s), told(ask), got, ok)
			}
		}
	}
}

// P11.2: bytes that tell what no sector may have, with the sum made right, are right for nobody who asks for just that.
func TestRightOfWhatMayNotBe(t *testing.T) {
	for _, tag := range nearTags() {
		if len(tag) == 4 {
			wantNotRight(t, laid(tag, 1, 2, 3, 3, 0, []byte("abc")), sectorOf(tag, 1, 2, 3, nil))
		}
	}
	for _, x := range edgeSeqs() {
		wantRightAsPlain(t, laid("CVO1", uint64(x), 2, 3, 3, 0, []byte("abc")), sectorOf("CVO1", x, 2, 3, nil))
		wantRightAsPlain(t, laid("CVO1", 1, uint64(x), 3, 3, 0, []byte("abc")), sectorOf("CVO1", 1, x, 3, nil))
	}
	for _, x := range edgePlaces() {
		wantRightAsPlain(t, laid("CVO1", 1, 2, uint32(x), 3, 0, []byte("abc")), sectorOf("CVO1", 1, 2, x, nil))
	}
	for _, used := range []uint16{481, 482, 484, 512, 1000, 32768, 65535} {
		wantNotRight(t, laid("CVO1", 1, 2, 3, used, 0, counted(1, 7, bodySize)), sectorOf("CVO1", 1, 2, 3, nil))
	}
}

// P11.2: bytes of all lengths about the right one, with a sum that is right of what they are.
func TestRightOfLengths(t *testing.T) {
	s := sectorOf("CVC1", 5, 6, 7, counted(1, 7, bodySize))
	long := append(plainPut(s), plainPut(s)...)
	for n := range len(long) + 1 {
		if n == size {
			wantRight(t, long[:n], s, s.Body)
			continue
		}
		wantNotRight(t, long[:n], s)
		wantNotRight(t, bytes.Clone(long[:n]), s)
		if n >= 4 {
			wantNotRight(t, binary.BigEndian.AppendUint32(bytes.Clone(long[:n-4]), plainSum(long[:n-4])), s)
		}
	}
	wantNotRight(t, nil, s)
	wantNotRight(t, []byte{}, s)
	wantNotRight(t, long[1:513], s)
}

// P11.2: a body of no bytes is nothing and true; a body of zeros is all its zeros.
func TestRightOfNoBody(t *testing.T) {
	for _, tag := range tags {
		none := sectorOf(tag, 1, 2, 3, nil)
		if got, ok := right(plainPut(none), none); len(got) != 0 || !ok {
			t.Errorf("Right of no body = %x, %v", got, ok)
		}
		for _, n := range []int{1, 2, 479, 480} {
			s := sectorOf(tag, 1, 2, 3, make([]byte, n))
			wantRight(t, plainPut(s), s, s.Body)
		}
	}
}

// P11.2: a sum that is wrong: by one bit, by its order, by its beginning, or of too few or too many bytes.
func TestRightWithAWrongSum(t *testing.T) {
	s := example()
	b := plainPut(s)
	sum := plainSum(b[:508])
	for i := range 32 {
		wantNone(t, binary.BigEndian.AppendUint32(bytes.Clone(b[:508]), sum^1<<i), s)
	}
	wantNone(t, binary.LittleEndian.AppendUint32(bytes.Clone(b[:508]), sum), s)
	for _, wrong := range []uint32{0, ^sum, sum + 1, sum - 1, plainSum(b[:507]), plainSum(b[1:508]), plainSum(b[4:508]), plainSum(b[28:508]), plainSum(b[28:31]), plainSum(b[:31]), plainSum(b)} {
		wantNone(t, binary.BigEndian.AppendUint32(bytes.Clone(b[:508]), wrong), s)
	}
}

// P11.2: the bytes that are always 0, those behind what is used, and the length that is told, with the sum made right.
func TestRightOfAnotherForm(t *testing.T) {
	s := example()
	b := plainPut(s)
	for at := 26; at < 508; at++ {
		if at >= 28 && at < 31 {
			continue
		}
		wantNotRight(t, summed(with(b, at, 1)), s)
		wantNotRight(t, summed(with(b, at, 255)), s)
	}
	for used := range 600 {
		ask := summed(with(b, 24, byte(used>>8), byte(used)))
		wantRightAsPlain(t, ask, s)
	}
}

// P11.2: many sectors, each asked for what it is and for what another one is.
func TestRightOfSamples(t *testing.T) {
	all := sampleSectors(2)
	for i, s := range all {
		b := plainPut(s)
		wantRight(t, b, s, s.Body)
		wantRightAsPlain(t, b, all[(i+1)%len(all)])
		other := all[(i*7+3)%len(all)]
		wantRightAsPlain(t, b, sectorOf(other.Tag, s.Epoch, s.Seq, s.Place, nil))
		wantRightAsPlain(t, b, sectorOf(s.Tag, other.Epoch, s.Seq, s.Place, nil))
		wantRightAsPlain(t, b, sectorOf(s.Tag, s.Epoch, other.Seq, s.Place, nil))
		wantRightAsPlain(t, b, sectorOf(s.Tag, s.Epoch, s.Seq, other.Place, nil))
		wantRightAsPlain(t, b, sectorOf(s.Tag, s.Seq, s.Epoch, s.Place, nil))
	}
}

// P11.2: Right is what Get and a comparison are, of bytes that are near a sector's too.
func TestRightIsGetAndAComparison(t *testing.T) {
	s := newSampler(3)
	for range 20000 {
		own := s.sector()
		b := plainPut(own)
		if at := s.IntN(size); s.IntN(3) > 0 {
			b = summed(with(b, at, byte(s.Uint32())))
		}
		got, e := sector.Get(b)
		body, ok := right(b, own)
		if want := e == api.OK && same(asked(got), asked(own)); ok != want || !bytes.Equal(body, got.Body) && want {
			t.Errorf("of %s Get = %s, %d, Right for %s = %s, %v", brief(b), told(got), e, told(asked(own)), brief(body), ok)
		}
	}
}
