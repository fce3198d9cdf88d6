package sector_test

import (
	"bytes"
	"math"
	"testing"

	"culvert/api"
	"culvert/sector"
)

// The bounds that the tests write out are those of the document.
func TestLimits(t *testing.T) {
	if api.SectorSize != size || api.BodySize != bodySize || api.MaxSeq != maxSeq || api.MaxSectors != maxPlace+1 {
		t.Errorf("SectorSize, BodySize, MaxSeq, MaxSectors = %d, %d, %d, %d", api.SectorSize, api.BodySize, api.MaxSeq, api.MaxSectors)
	}
	if api.TagSuper != "CVS1" || api.TagPiece != "CVD1" || api.TagEnd != "CVC1" || api.TagOne != "CVO1" {
		t.Errorf("the tags are %q, %q, %q, %q", api.TagSuper, api.TagPiece, api.TagEnd, api.TagOne)
	}
	if api.ErrForm != 117 || api.OK != 0 {
		t.Errorf("ErrForm, OK = %d, %d", api.ErrForm, api.OK)
	}
}

// P11.1, P11.2, P11.3: the chapter's examples, row by row.
func TestExamples(t *testing.T) {
	s, e := sector.Put(sectorOf(api.TagOne, 1, 2, 3, []byte("abc")))
	if e != api.OK || len(s) != size {
		t.Fatalf("S = %s, %d", brief(s), e)
	}
	if want := hexBytes(t, "43564f31 0000000000000001 0000000000000002 00000003 0003 0000 616263 00"); !bytes.Equal(s[:32], want) {
		t.Errorf("the first 32 bytes of S = %x", s[:32])
	}
	if want := hexBytes(t, "d0cc66be"); !bytes.Equal(s[508:], want) {
		t.Errorf("the last four bytes of S = %x", s[508:])
	}
	great, e := sector.Put(sectorOf(api.TagSuper, 1<<62, 1, 8191, make([]byte, 480)))
	if e != api.OK || len(great) != size || !bytes.Equal(great[508:], hexBytes(t, "a945fc55")) {
		t.Errorf("Put of the greatest epoch = %s, %d", brief(great), e)
	}

	wantNoPut(t, sectorOf("CVX1", 1, 2, 3, []byte("abc")))
	wantNoPut(t, sectorOf(api.TagOne, 0, 2, 3, []byte("abc")))
	wantNoPut(t, sectorOf(api.TagOne, 1, 1<<62+1, 3, []byte("abc")))
	wantNoPut(t, sectorOf(api.TagOne, 1, 2, 8192, []byte("abc")))
	wantNoPut(t, sectorOf(api.TagOne, 1, 2, 3, make([]byte, 481)))

	wantRight(t, s, sectorOf(api.TagOne, 1, 2, 3, nil), []byte("abc"))
	wantNotRight(t, s, sectorOf(api.TagOne, 1, 2, 4, nil))
	wantNotRight(t, s, sectorOf(api.TagPiece, 1, 2, 3, nil))
	wantNotRight(t, s[:511], sectorOf(api.TagOne, 1, 2, 3, nil))

	wantGet(t, s, sectorOf(api.TagOne, 1, 2, 3, []byte("abc")))
	wantNoGet(t, with(s, 40, 1))
	wantNoGet(t, make([]byte, 512))
}

// P11.1: each byte at its place, of each tag; the sum stands highest byte first.
func TestPutEachByte(t *testing.T) {
	body := counted(0x31, 1, bodySize)
	for tag, letter := range map[string]byte{"CVS1": 'S', "CVD1": 'D', "CVC1": 'C', "CVO1": 'O'} {
		got, e := sector.Put(sectorOf(tag, 0x1112131415161718, 0x2122232425262728, 0x1A1B, body))
		want := append([]byte{'C', 'V', letter, '1'}, hexBytes(t, "1112131415161718 2122232425262728 00001a1b 01e0 0000")...)
		want = append(want, body...)
		sum := plainSum(want)
		want = append(want, byte(sum>>24), byte(sum>>16), byte(sum>>8), byte(sum))
		if e != api.OK || len(got) != size {
			t.Fatalf("Put with the tag %q = %s, %d", tag, brief(got), e)
		}
		for i := range want {
			if got[i] != want[i] {
				t.Errorf("Put with the tag %q: the byte %d is %#x, want %#x", tag, i, got[i], want[i])
			}
		}
	}
}

// P11.1: each of the four tags, and no other text.
func TestPutOfTags(t *testing.T) {
	for _, tag := range tags {
		s := sectorOf(tag, 1, 2, 3, []byte("abc"))
		wantPut(t, s, plainPut(s))
	}
	for _, tag := range nearTags() {
		wantNoPut(t, sectorOf(tag, 1, 2, 3, []byte("abc")))
		wantNoPut(t, sectorOf(tag, maxSeq, maxSeq, maxPlace, nil))
	}
}

// P11.1: an epoch and a seq alone at the bounds and beyond them.
func TestPutOfSeqs(t *testing.T) {
	for _, x := range []struct {
		seq  int
		want bool
	}{
		{math.MinInt, false}, {math.MinInt + 1, false}, {-maxSeq, false}, {-1, false}, {0, false}, {1, true}, {2, true}, {256, true},
		{1<<31 - 1, true}, {1 << 31, true}, {1 << 32, true}, {maxSeq - 1, true}, {maxSeq, true}, {maxSeq + 1, false}, {math.MaxInt, false},
	} {
		for _, s := range []api.Sector{sectorOf("CVO1", x.seq, 2, 3, []byte("abc")), sectorOf("CVD1", 1, x.seq, 3, []byte("abc")), sectorOf("CVS1", x.seq, x.seq, 0, nil)} {
			if x.want {
				wantPut(t, s, plainPut(s))
			} else {
				wantNoPut(t, s)
			}
		}
	}
	for _, x := range edgeSeqs() {
		wantPutAsPlain(t, sectorOf("CVC1", x, 2, 3, []byte("abc")))
		wantPutAsPlain(t, sectorOf("CVC1", 2, x, 3, []byte("abc")))
	}
}

// P11.1: all places, and numbers beyond them.
func TestPutOfPlaces(t *testing.T) {
	for place := range maxPlace + 1 {
		s := sectorOf("CVO1", 1, 2, place, []byte("abc"))
		wantPut(t, s, plainPut(s))
	}
	for _, place := range []int{math.MinInt, -1 << 32, -1, 8192, 8193, 65536, 1 << 32, 1<<32 + 3, math.MaxInt} {
		wantNoPut(t, sectorOf("CVO1", 1, 2, place, []byte("abc")))
	}
	for _, place := range edgePlaces() {
		wantPutAsPlain(t, sectorOf("CVS1", 1, 2, place, nil))
	}
}

// P11.1: bodies of all lengths up to the greatest, and longer ones, also such that two bytes could not tell.
func TestPutOfBodies(t *testing.T) {
	for n := range bodySize + 1 {
		for _, body := range [][]byte{counted(1, 7, n), make([]byte, n), bytes.Repeat([]byte{255}, n)} {
			s := sectorOf("CVD1", 1, 2, 3, body)
			wantPut(t, s, plainPut(s))
		}
	}
	wantPut(t, sectorOf("CVD1", 1, 2, 3, nil), plainPut(sectorOf("CVD1", 1, 2, 3, []byte{})))
	for _, n := range []int{481, 482, 484, 508, 512, 513, 1000, 65535, 65536, 65537, 65539, 65536 + 480, 1 << 20} {
		wantNoPut(t, sectorOf("CVD1", 1, 2, 3, make([]byte, n)))
		wantNoPut(t, sectorOf("CVS1", maxSeq, maxSeq, maxPlace, counted(1, 3, n)))
	}
}

// P11.1: where one thing may not be, it does not matter what else may not: all of some right and wrong ones with each other.
func TestPutOfSeveralFaults(t *testing.T) {
	for _, tag := range append([]string{"", "CVS", "CVS12", "CVX1", "\x00\x00\x00\x00"}, tags...) {
		for _, epoch := range []int{-1, 0, 1, maxSeq, maxSeq + 1} {
			for _, seq := range []int{-1, 0, 1, maxSeq, maxSeq + 1} {
				for _, place := range []int{-1, 0, maxPlace, maxPlace + 1} {
					for _, n := range []int{0, 1, 479, 480, 481} {
						wantPutAsPlain(t, sectorOf(tag, epoch, seq, place, counted(5, 3, n)))
					}
				}
			}
		}
	}
	wantNoPut(t, api.Sector{})
}

// P11.1: many sectors, against the library's numbers and sums.
func TestPutOfSamples(t *testing.T) {
	for _, s := range sampleSectors(1) {
		wantPut(t, s, plainPut(s))
	}
}
