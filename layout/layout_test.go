package layout_test

import (
	"bytes"
	"fmt"
	"math"
	"testing"

	"culvert/api"
	"culvert/crc"
	"culvert/layout"
	"culvert/sector"
)

// Where the regions lie: two, side by side behind the two superblocks; a last odd sector is in none.
func TestRegions(t *testing.T) {
	for n := 32; n <= 8192; n++ {
		room := layout.Room(n)
		even, odd := layout.Region(n, 0), layout.Region(n, 1)
		if even != 2 || odd != even+room || odd+room > n || odd+room < n-1 {
			t.Fatalf("%d sectors: regions of %d from %d and %d on", n, room, even, odd)
		}
		for _, epoch := range []int{1, 2, 7, 8, api.MaxSeq - 1, api.MaxSeq} {
			if got := layout.Region(n, epoch); got != []int{even, odd}[epoch%2] {
				t.Fatalf("%d sectors: the region of the epoch %d begins at %d", n, epoch, got)
			}
		}
	}
}

func TestPieces(t *testing.T) {
	for n, want := range map[int]int{math.MinInt: 0, -1: 0, 0: 0, 1: 1, 479: 1, 480: 1, 481: 2, 960: 2, 961: 3, 4800: 10, math.MaxInt - 480: (math.MaxInt-480)/480 + 1, math.MaxInt: math.MaxInt/480 + 1} {
		if got := layout.Pieces(n); got != want {
			t.Errorf("Pieces(%d) = %d, want %d", n, got, want)
		}
	}
}

// A checkpoint has room, if eleven sectors are left behind it.
func TestHasRoom(t *testing.T) {
	for n := 32; n <= 8192; n++ {
		most := ((n-2)/2 - 11) * 480
		if !layout.HasRoom(n, most) || layout.HasRoom(n, most+1) || !layout.HasRoom(n, 0) || layout.HasRoom(n, math.MaxInt) {
			t.Fatalf("%d sectors: not just %d bytes have room", n, most)
		}
	}
}

func bytesOf(t *testing.T, s api.Sector) []byte {
	t.Helper()
	b, e := sector.Put(s)
	if e != api.OK {
		t.Fatalf("Put(%+v) = %d", s, e)
	}
	return b
}

// A superblock that is laid down is the one that is found, in its own sector, on a device of that size, and nowhere else.
func TestSupers(t *testing.T) {
	for _, n := range []int{32, 33, 64, 8192} {
		most := ((n-2)/2 - 11) * 480
		for _, s := range []layout.Super{{1, 1, 0, 0}, {2, 7, 1, 9}, {3, 7, 480, 9}, {4, 7, most - 479, math.MaxUint32}, {api.MaxSeq, api.MaxSeq, most, 1}} {
			b := bytesOf(t, s.On(n))
			at := s.Epoch % 2
			if got, counts := layout.GetSuper(n, at, b); !counts || got != s {
				t.Errorf("%d sectors: %+v becomes %+v, %v", n, s, got, counts)
			}
			for what, wrong := range map[string][2]int{"the other sector": {n, 1 - at}, "a sector more": {n + 1, at}, "a sector less": {n - 1, at}} {
				if got, counts := layout.GetSuper(wrong[0], wrong[1], b); counts || got != (layout.Super{}) {
					t.Errorf("%d sectors: %s: %+v counts", n, what, s)
				}
			}
		}
	}
}

// The bytes of the chapter's example, 12.
func TestSuperBytes(t *testing.T) {
	s := layout.Super{Epoch: 2, Seq: 4, Length: 1, Sum: crc.Sum([]byte("s"))}
	b := bytesOf(t, s.On(32))
	want := "435653310000000000000002000000000000000400000000001000000000002000000001000000" + "0130b5f4a8"
	if got := fmt.Sprintf("%x", b[:44]); got != want {
		t.Errorf("the superblock begins with %s, want %s", got, want)
	}
	if got := fmt.Sprintf("%x", b[508:]); got != "2f96e325" {
		t.Errorf("the superblock ends with %s", got)
	}
}

// What is almost a superblock is none.
func TestNoSupers(t *testing.T) {
	n := 32
	right := layout.Super{Epoch: 6, Seq: 9}.On(n)
	with := func(change func(s *api.Sector)) []byte {
		s := right
		s.Body = bytes.Clone(s.Body)
		change(&s)
		return bytesOf(t, s)
	}
	body := func(numbers ...byte) []byte {
		return with(func(s *api.Sector) {
			for i, x := range numbers {
				s.Body[4*i+3] = x
			}
		})
	}
	if _, counts := layout.GetSuper(n, 0, bytesOf(t, right)); !counts {
		t.Fatal("a superblock does not count")
	}
	for what, b := range map[string][]byte{
		"nothing":            nil,
		"zeros":              make([]byte, 512),
		"a byte less":        bytesOf(t, right)[:511],
		"another tag":        with(func(s *api.Sector) { s.Tag = api.TagPiece }),
		"an odd epoch":       with(func(s *api.Sector) { s.Epoch++ }),
		"another place":      with(func(s *api.Sector) { s.Place++ }),
		"a body with more":   with(func(s *api.Sector) { s.Body = append(s.Body, 0) }),
		"a body with less":   with(func(s *api.Sector) { s.Body = s.Body[:15] }),
		"no body":            with(func(s *api.Sector) { s.Body = nil }),
		"another device":     body(33),
		"a piece too many":   body(32, 1),
		"a piece too few":    body(32, 0, 1),
		"a region too small": with(func(s *api.Sector) { *s = layout.Super{Epoch: 6, Seq: 9, Length: 1921}.On(n) }),
	} {
		if got, counts := layout.GetSuper(n, 0, b); counts || got != (layout.Super{}) {
			t.Errorf("%s: %+v, %v", what, got, counts)
		}
	}
}
