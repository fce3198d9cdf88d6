package sector_test

import (
	"bytes"
	"testing"

	"culvert/api"
	"culvert/sector"
)

// edgeForms are some sectors that are unlike each other in all they may be.
func edgeForms() []api.Sector {
	return []api.Sector{example(), sectorOf("CVS1", maxSeq, 1, maxPlace, nil), sectorOf("CVD1", 1, maxSeq, 0, counted(1, 7, bodySize))}
}

func mustPut(t *testing.T, s api.Sector) []byte {
	t.Helper()
	b, e := sector.Put(s)
	if e != api.OK {
		t.Fatalf("Put(%s) = %d", told(s), e)
	}
	return b
}

// P11.5: Get of Put is what was put.
func TestThereAndBack(t *testing.T) {
	for _, s := range sampleSectors(6) {
		b := mustPut(t, s)
		wantGet(t, b, s)
		wantRight(t, b, s, s.Body)
	}
	wantGet(t, mustPut(t, sectorOf("CVO1", 1, 2, 3, []byte{})), sectorOf("CVO1", 1, 2, 3, nil))
}

// P11.5: where Get answers OK, Put of its answer is the bytes: of bytes that are one, two or three bytes away from a sector's, with the sum made right.
func TestBackAndThere(t *testing.T) {
	s := newSampler(7)
	taken := 0
	for range 60000 {
		b := plainPut(s.sector())
		for range s.IntN(4) {
			at := s.IntN(size-4) >> s.IntN(9)
			b[at] = byte(s.Uint32()) >> s.IntN(8)
		}
		b = summed(b)
		got, e := sector.Get(b)
		if e == api.OK {
			taken++
			wantPut(t, got, b)
		}
	}
	if taken < 20000 || taken > 50000 {
		t.Errorf("%d of 60000 were taken: that tries too little", taken)
	}
}

// P11.5: sectors that differ in one field alone have unlike bytes, and are right each for itself alone.
func TestOneFieldApart(t *testing.T) {
	s := newSampler(8)
	for _, one := range append(edgeForms(), s.sector(), s.sector(), s.sector()) {
		for _, other := range oneApart(one) {
			if !plainMayBe(other) || same(one, other) {
				continue
			}
			a, b := mustPut(t, one), mustPut(t, other)
			if bytes.Equal(a, b) {
				t.Errorf("%s and %s have the same bytes", told(one), told(other))
			}
			wantGet(t, a, one)
			wantGet(t, b, other)
			wantRightAsPlain(t, a, other)
			wantRightAsPlain(t, b, one)
		}
	}
}

// oneApart are what comes of a sector when one field is turned: some may not be, and some are the sector itself.
func oneApart(s api.Sector) []api.Sector {
	var out []api.Sector
	turn := func(f func(*api.Sector)) {
		other := s
		f(&other)
		out = append(out, other)
	}
	for _, tag := range tags {
		turn(func(s *api.Sector) { s.Tag = tag })
	}
	for _, x := range edgeSeqs() {
		turn(func(s *api.Sector) { s.Epoch = x })
		turn(func(s *api.Sector) { s.Seq = x })
		turn(func(s *api.Sector) { s.Epoch ^= x })
		turn(func(s *api.Sector) { s.Seq ^= x })
	}
	for _, x := range edgePlaces() {
		turn(func(s *api.Sector) { s.Place = x })
		turn(func(s *api.Sector) { s.Place ^= x })
	}
	turn(func(s *api.Sector) { s.Epoch, s.Seq = s.Seq, s.Epoch })
	for n := range len(s.Body) {
		turn(func(s *api.Sector) { s.Body = s.Body[:n] })
		turn(func(s *api.Sector) { s.Body = with(s.Body, n, s.Body[n]+1) })
	}
	for _, x := range []byte{0, 1, 255} {
		turn(func(s *api.Sector) { s.Body = append(bytes.Clone(s.Body), x) })
		turn(func(s *api.Sector) { s.Body = append([]byte{x}, s.Body...) })
	}
	return append(out, sectorOf(s.Tag, s.Epoch, s.Seq, s.Place, append(bytes.Clone(s.Body), make([]byte, 7)...)))
}

// P11.5: of many sectors no two that are unlike have the same bytes.
func TestUnlikeSectorsHaveUnlikeBytes(t *testing.T) {
	seen := map[string]api.Sector{}
	for _, s := range append(sampleSectors(9), grid()...) {
		if !plainMayBe(s) {
			continue
		}
		b := string(mustPut(t, s))
		if other, ok := seen[b]; ok && !same(s, other) {
			t.Errorf("%s and %s have the same bytes", told(s), told(other))
		}
		seen[b] = s
	}
	if len(seen) < 3000 {
		t.Errorf("%d sectors: that tries too little", len(seen))
	}
}
