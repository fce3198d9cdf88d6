package table_test

import (
	"bytes"
	"encoding/binary"
	"slices"
	"strings"
	"testing"

	"culvert/api"
	"culvert/table"
)

// P13.5: the bytes of a set, written out: 1 or 0, the lengths, the key, the value.
func TestPutSetsWrittenOut(t *testing.T) {
	for _, c := range []struct {
		l    []api.Set
		want string
	}{
		{nil, ""},
		{[]api.Set{}, ""},
		{[]api.Set{set("a", "1")}, "01 01 0001 61 31"},
		{[]api.Set{set("a", "")}, "01 01 0000 61"},
		{[]api.Set{gone("a")}, "00 01 0000 61"},
		{[]api.Set{{Key: []byte("a"), Value: []byte{}, Gone: true}}, "00 01 0000 61"},
		{[]api.Set{set("\x00", "\x00\x00")}, "01 01 0002 00 0000"},
		{[]api.Set{gone("a"), set("ab", "xyz"), gone("b"), set("b\x00", "")}, "00 01 0000 61 · 01 02 0003 6162 78797a · 00 01 0000 62 · 01 02 0000 6200"},
		{[]api.Set{set(strings.Repeat("k", 40), strings.Repeat("v", 480))}, "01 28 01e0" + strings.Repeat("6b", 40) + strings.Repeat("76", 480)},
		{[]api.Set{set("k", strings.Repeat("v", 255))}, "01 01 00ff 6b" + strings.Repeat("76", 255)},
		{[]api.Set{set("k", strings.Repeat("v", 256))}, "01 01 0100 6b" + strings.Repeat("76", 256)},
	} {
		want := hexBytes(t, c.want)
		if b, e := table.PutSets(c.l); !bytes.Equal(b, want) || e != api.OK {
			t.Errorf("PutSets(%s) = %s, %d, want %s, OK", told(c.l), briefBytes(b), e, briefBytes(want))
		}
		if l, e := table.GetSets(want); !same(l, c.l) || e != api.OK {
			t.Errorf("GetSets(%s) = %s, %d, want %s, OK", briefBytes(want), told(l), e, told(c.l))
		}
	}
}

// P13.5: no bytes and no sets, in both forms.
func TestNoBytesNoSets(t *testing.T) {
	for _, b := range [][]byte{nil, {}} {
		if l, e := table.GetSets(b); len(l) != 0 || e != api.OK {
			t.Errorf("GetSets of no bytes = %s, %d", told(l), e)
		}
		x, e := table.FromBytes(b)
		wantErr(t, "FromBytes of no bytes", e, api.OK)
		wantTable(t, "FromBytes of no bytes", x, nil)
	}
}

// P13.5: all keys and values at the edges, there and gone, alone and between others.
func TestPutSetsEdges(t *testing.T) {
	for _, key := range edgeKeys() {
		for _, value := range edgeValues() {
			wantPut(t, []api.Set{set(key, value)})
			wantGet(t, plainSet(set(key, value)))
			l := []api.Set{set(key, value), set("\xff\xff\xff", "last")}
			wantPut(t, l)
			b, _ := plainPut(l)
			wantGet(t, b)
		}
		wantPut(t, []api.Set{gone(key)})
		wantGet(t, plainSet(gone(key)))
	}
}

// P13.5: every reason for which a set may not be, at the first, a middle and the last place: nothing and ErrRow; and the bytes that it would have are those of none.
func TestPutSetsRefused(t *testing.T) {
	good := []api.Set{set("a", "1"), gone("b"), set("l", ""), set("n", "2"), gone("z")}
	for _, wrong := range noSets() {
		for place := range len(good) + 1 {
			l := slices.Insert(slices.Clone(good), place, wrong)
			if b, e := table.PutSets(l); len(b) != 0 || e != api.ErrRow {
				t.Errorf("PutSets(%s) = %s, %d", told(l), briefBytes(b), e)
			}
			var b []byte
			for _, s := range l {
				b = append(b, plainSet(s)...)
			}
			wantGet(t, b) // not always none: a length beyond its bytes may be read as another one
		}
		if b, e := table.PutSets([]api.Set{wrong}); len(b) != 0 || e != api.ErrRow {
			t.Errorf("PutSets(%s) = %s, %d", told([]api.Set{wrong}), briefBytes(b), e)
		}
	}
}

// P13.5: keys that rise, are the same, fall: all pairs of the edges, alone, and behind and ahead of others.
func TestKeysRise(t *testing.T) {
	keys := edgeKeys()
	for _, one := range keys {
		for _, two := range keys {
			for _, l := range [][]api.Set{
				{set(one, "1"), set(two, "2")}, {gone(one), set(two, "")}, {set(one, ""), gone(two)}, {gone(one), gone(two)},
				{set("\x00", "0"), set(one, "1"), set(two, "2")}, {set(one, "1"), set(two, "2"), gone("\xff\xff\xff")}, {set(one, "1"), set("m", ""), set(two, "2")},
			} {
				wantPut(t, l)
				var b []byte
				for _, s := range l {
					b = append(b, plainSet(s)...)
				}
				wantGet(t, b)
			}
		}
	}
	for i, first := range keys { // each one above the one ahead: not just above the first, nor some one
		for _, second := range keys[i:] {
			l := []api.Set{set(first, ""), set(second, ""), set(first, "")}
			wantPut(t, l)
		}
	}
}

// some are sets of all kinds, keys rising.
func some() []api.Set {
	return []api.Set{set("a", "1"), set("ab", ""), gone("b"), set("c", counted(4, 480)), gone(strings.Repeat("k", 40)), set(strings.Repeat("l", 40), "xyz"), set("z", "\x00\x01")}
}

// someBytes are those of some, and where each set begins; at last where they end.
func someBytes() ([]byte, []int) {
	var b []byte
	var starts []int
	for _, s := range some() {
		starts = append(starts, len(b))
		b = append(b, plainSet(s)...)
	}
	return b, append(starts, len(b))
}

// P13.5: bytes that are cut off at every place are those of none, but where a set ends; from every place on likewise.
func TestGetSetsCutOff(t *testing.T) {
	b, starts := someBytes()
	for n := range len(b) + 1 {
		if at := slices.Index(starts, n); at >= 0 {
			if l, e := table.GetSets(b[:n]); !same(l, some()[:at]) || e != api.OK {
				t.Errorf("GetSets of %d sets = %s, %d", at, told(l), e)
			}
		} else {
			wantNone(t, "cut off", b[:n])
		}
		wantGet(t, b[n:])
	}
}

// P13.5: one byte more, whatever it is; one byte less anywhere, one more anywhere.
func TestGetSetsOneByteMoreOrLess(t *testing.T) {
	b, starts := someBytes()
	for _, n := range starts {
		for x := range 256 {
			wantNone(t, "one byte more", append(slices.Clone(b[:n]), byte(x)))
		}
	}
	for n := range b {
		wantGet(t, slices.Delete(slices.Clone(b), n, n+1))
		for _, x := range []byte{0, 1, 2, 'a', 0xFF} {
			wantGet(t, slices.Insert(slices.Clone(b), n, x))
		}
	}
}

// P13.5: a first byte other than 0 and 1, at the first, a middle and the last set, with a value and without.
func TestGetSetsFirstByte(t *testing.T) {
	b, starts := someBytes()
	for _, n := range starts[:len(starts)-1] {
		for x := 2; x < 256; x++ {
			turned := slices.Clone(b)
			turned[n] = byte(x)
			wantNone(t, "a first byte", turned)
		}
		turned := slices.Clone(b)
		turned[n] ^= 1 // there instead of gone, or gone instead of there: with a value's bytes that may not be
		wantGet(t, turned)
	}
}

// P13.5: each byte of a short list turned into each other one.
func TestGetSetsTurned(t *testing.T) {
	b, _ := plainPut([]api.Set{set("a", "1"), gone("ab"), set("b", ""), set("bc", "234")})
	for n := range b {
		for x := range 256 {
			turned := slices.Clone(b)
			turned[n] = byte(x)
			wantGet(t, turned)
		}
	}
}

// lengths are bytes that tell these lengths and have just so many others behind them.
func lengths(kind byte, key, value, have int) []byte {
	b := binary.BigEndian.AppendUint16([]byte{kind, byte(key)}, uint16(value))
	return append(b, counted(9, have)...)
}

// P13.5: all lengths of a key, with the bytes that they tell, one less, one more; there and gone.
func TestGetSetsKeyLengths(t *testing.T) {
	for n := range 256 {
		for _, value := range []int{0, 1, 480} {
			for _, more := range []int{-1, 0, 1} {
				for kind := range byte(2) {
					wantGet(t, lengths(kind, n, value, max(0, n+value+more)))
				}
			}
		}
		if _, e := table.GetSets(lengths(1, n, 0, n)); (e == api.OK) != (1 <= n && n <= 40) {
			t.Errorf("GetSets of a key of %d bytes = %d", n, e)
		}
	}
}

// P13.5: lengths of a value, with the bytes that they tell, one less, one more; there and gone; all that tell more than there is.
func TestGetSetsValueLengths(t *testing.T) {
	var all []int
	for n := range 600 {
		all = append(all, n)
	}
	for _, n := range append(all, 768, 1024, 0x0100+0xE0, 0xE001, 0xE000, 32767, 32768, 65534, 65535) {
		for _, more := range []int{-1, 0, 1} {
			for kind := range byte(2) {
				wantGet(t, lengths(kind, 1, n, max(0, 1+n+more)))
			}
		}
		if _, e := table.GetSets(lengths(1, 1, n, 1+n)); (e == api.OK) != (n <= 480) {
			t.Errorf("GetSets of a value of %d bytes = %d", n, e)
		}
		if _, e := table.GetSets(lengths(0, 1, n, 1+n)); (e == api.OK) != (n == 0) {
			t.Errorf("GetSets of a Gone one with %d bytes of a value = %d", n, e)
		}
	}
	for n := range 1 << 16 {
		if n > 20 {
			wantNone(t, "a length beyond the end", lengths(1, 1, n, 21))
		}
	}
}

// P13.5, P13.6: all bytes of up to eleven out of 0, 1 and 2: those of one set, of two and of none.
func TestGetSetsOfAllShortBytes(t *testing.T) {
	t.Parallel()
	const longest = 11
	found := [3]int{}
	b := make([]byte, longest)
	for n := range longest + 1 {
		for number := range power(3, n) {
			for i := range n {
				b[i] = byte(number % 3)
				number /= 3
			}
			wantGet(t, b[:n])
			if l, ok := plainGet(b[:n]); ok {
				found[len(l)]++
			}
		}
	}
	if found[0] != 1 || found[1] < 100 || found[2] < 10 {
		t.Errorf("found %v lists of no, one and two sets: that tries too little", found)
	}
}

func power(x, n int) int {
	out := 1
	for range n {
		out *= x
	}
	return out
}

// P13.5: sampled bytes: those of sets with some changed, cut out, put in, or put twice.
func TestGetSetsSampled(t *testing.T) {
	t.Parallel()
	s := newSampler(2)
	for range 20000 {
		b, _ := plainPut(s.rising(s.IntN(6)))
		for range s.IntN(3) {
			at := s.IntN(len(b) + 1)
			end := min(len(b), at+s.IntN(8))
			switch s.IntN(4) {
			case 0:
				b = slices.Delete(b, at, end)
			case 1:
				b = slices.Insert(b, at, []byte(s.text(s.IntN(5)))...)
			case 2:
				b = slices.Insert(b, at, slices.Clone(b[at:end])...)
			case 3:
				if at < len(b) {
					b[at] = byte(s.IntN(3))
				}
			}
		}
		wantGet(t, b)
	}
}

// P13.5: sampled lists, some with a set that may not be, some whose keys don't rise.
func TestPutSetsSampled(t *testing.T) {
	s := newSampler(3)
	wrong := noSets()
	for range 20000 {
		l := s.rising(s.IntN(8))
		switch s.IntN(4) {
		case 0:
			l = slices.Insert(l, s.IntN(len(l)+1), s.set())
		case 1:
			l = slices.Insert(l, s.IntN(len(l)+1), s.oneOf(wrong))
		}
		wantPut(t, l)
	}
}
