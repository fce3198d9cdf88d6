package prefix_test

import (
	"bytes"
	"encoding/hex"
	"math"
	"slices"
	"strings"
	"testing"

	"culvert/api"
	"culvert/prefix"
)

func wantValid(t *testing.T, p api.Prefix, want bool) {
	t.Helper()
	if got := prefix.Valid(p); got != want {
		t.Errorf("Valid(%v) = %v", p, got)
	}
}

func wantHolds(t *testing.T, p api.Prefix, a api.Addr, want bool) {
	t.Helper()
	if got := prefix.Holds(p, a); got != want {
		t.Errorf("Holds(%v, %v) = %v", p, a, got)
	}
}

func wantCompare(t *testing.T, a, b api.Prefix, want int) {
	t.Helper()
	if got := prefix.Compare(a, b); got != want {
		t.Errorf("Compare(%v, %v) = %d, want %d", a, b, got, want)
	}
}

func wantPutAddr(t *testing.T, a api.Addr, want []byte) {
	t.Helper()
	if got := prefix.PutAddr(a); !bytes.Equal(got, want) {
		t.Errorf("PutAddr(%v) = %x, want %x", a, got, want)
	}
}

func wantPut(t *testing.T, p api.Prefix, want []byte) {
	t.Helper()
	if got := prefix.Put(p); !bytes.Equal(got, want) {
		t.Errorf("Put(%v) = %x, want %x", p, got, want)
	}
}

func wantGet(t *testing.T, b []byte, want api.Prefix, wantSize int, wantErr api.Errno) {
	t.Helper()
	if got, n, e := prefix.Get(b); got != want || n != wantSize || e != wantErr {
		t.Errorf("Get(%.80x) = %v, %d, %d, want %v, %d, %d", b, got, n, e, want, wantSize, wantErr)
	}
}

func wantNoBytes(t *testing.T, b []byte) {
	t.Helper()
	wantGet(t, b, none, 0, api.ErrPrefixForm)
}

func wantPrintAddr(t *testing.T, a api.Addr, want string) {
	t.Helper()
	if got := prefix.PrintAddr(a); got != want {
		t.Errorf("PrintAddr(%v) = %q, want %q", a, got, want)
	}
}

func wantPrint(t *testing.T, p api.Prefix, want string) {
	t.Helper()
	if got := prefix.Print(p); got != want {
		t.Errorf("Print(%v) = %q, want %q", p, got, want)
	}
}

func wantParseAddr(t *testing.T, text string, want api.Addr, wantErr api.Errno) {
	t.Helper()
	if got, e := prefix.ParseAddr(text); got != want || e != wantErr {
		t.Errorf("ParseAddr(%.80q) = %v, %d, want %v, %d", text, got, e, want, wantErr)
	}
}

func wantParse(t *testing.T, text string, want api.Prefix, wantErr api.Errno) {
	t.Helper()
	if got, e := prefix.Parse(text); got != want || e != wantErr {
		t.Errorf("Parse(%.80q) = %v, %d, want %v, %d", text, got, e, want, wantErr)
	}
}

// wantNoText: neither an address's nor a prefix's.
func wantNoText(t *testing.T, text string) {
	t.Helper()
	wantParseAddr(t, text, noneAddr, api.ErrPrefixForm)
	wantParse(t, text, none, api.ErrPrefixForm)
}

// wantNoAddrText: no address's, and no prefix's with any Bits behind it.
func wantNoAddrText(t *testing.T, text string) {
	t.Helper()
	wantNoText(t, text)
	for _, behind := range []string{"/0", "/32", "/128"} {
		wantNoText(t, text+behind)
	}
}

func unhex(t *testing.T, text string) []byte {
	t.Helper()
	b, err := hex.DecodeString(strings.ReplaceAll(text, " ", ""))
	if err != nil {
		t.Fatal(err)
	}
	return b
}

// The number that the tests lean on is that of the document's table.
func TestErrorNumber(t *testing.T) {
	if api.ErrPrefixForm != 70 {
		t.Errorf("ErrPrefixForm = %d", api.ErrPrefixForm)
	}
}

// P7.1: the families and the bounds of the family 4.
func TestValidAddr(t *testing.T) {
	for _, x := range []struct {
		a    api.Addr
		want bool
	}{
		{addr4(0), true}, {addr4(1), true}, {addr4(max32), true}, {addr4(1 << 32), false}, {addr4(1<<32 + 1), false}, {addr4(1 << 63), false}, {addr4(max64), false},
		{api.Addr{Family: 4, Hi: 1}, false}, {api.Addr{Family: 4, Hi: 1, Lo: max32}, false}, {api.Addr{Family: 4, Hi: max64}, false}, {api.Addr{Family: 4, Hi: 1 << 63}, false},
		{addr6(0, 0), true}, {addr6(1, 0), true}, {addr6(0, 1<<32), true}, {addr6(max64, max64), true},
		{noneAddr, false}, {api.Addr{Family: 5}, false}, {api.Addr{Family: 3}, false}, {api.Addr{Family: 7}, false}, {api.Addr{Family: -4}, false},
		{api.Addr{Family: math.MinInt}, false}, {api.Addr{Family: math.MaxInt}, false},
	} {
		if got := prefix.ValidAddr(x.a); got != x.want {
			t.Errorf("ValidAddr(%v) = %v", x.a, got)
		}
	}
}

// P7.1: all edge families with all edge words.
func TestValidAddrOfAllEdges(t *testing.T) {
	for _, a := range edgeAddrs() {
		if got := prefix.ValidAddr(a); got != plainValidAddr(a) {
			t.Errorf("ValidAddr(%v) = %v", a, got)
		}
	}
}

// P7.1: the bounds of Bits, which are not the same in the two families.
func TestValidOfBits(t *testing.T) {
	for _, n := range edgeBits() {
		wantValid(t, prefix4(0, n), 0 <= n && n <= 32)
		wantValid(t, prefix6(0, 0, n), 0 <= n && n <= 128)
		wantValid(t, api.Prefix{Addr: api.Addr{Family: 5}, Bits: n}, false)
		wantValid(t, api.Prefix{Bits: n}, false)
		wantValid(t, prefix4(max32, n), n == 32)
		wantValid(t, prefix6(max64, max64, n), n == 128)
		wantValid(t, prefix4(1<<32, n), false)
		wantValid(t, api.Prefix{Addr: api.Addr{Family: 4, Hi: 1}, Bits: n}, false)
	}
}

// P7.1: one bit alone at each place, for each number of Bits: within it is right, behind it is wrong.
func TestValidOfOneBit(t *testing.T) {
	for _, width := range []int{32, 128} {
		for at := range width {
			a := addrOf(strings.Repeat("0", at) + "1" + strings.Repeat("0", width-at-1))
			for n := range width + 1 {
				wantValid(t, api.Prefix{Addr: a, Bits: n}, at < n)
			}
		}
	}
}

// P7.1: the same with all bits of the prefix set: a bit just behind, and the last one, spoil it.
func TestValidOfFullPrefixes(t *testing.T) {
	for _, width := range []int{32, 128} {
		for n := range width + 1 {
			ones := strings.Repeat("1", n)
			wantValid(t, prefixOf(ones, width), true)
			for at := n; at < width; at++ {
				a := addrOf(ones + strings.Repeat("0", at-n) + "1" + strings.Repeat("0", width-at-1))
				wantValid(t, api.Prefix{Addr: a, Bits: n}, false)
			}
		}
	}
}

// P7.1: all edge addresses with all edge Bits.
func TestValidOfAllEdges(t *testing.T) {
	for _, a := range edgeAddrs() {
		for _, n := range edgeBits() {
			p := api.Prefix{Addr: a, Bits: n}
			if got := prefix.Valid(p); got != plainValid(p) {
				t.Fatalf("Valid(%v) = %v", p, got)
			}
		}
	}
	for _, p := range noPrefixes() {
		wantValid(t, p, false)
	}
	for _, p := range samplePrefixes(1) {
		wantValid(t, p, true)
	}
}

// P7.2: within, beside, and at the first and the last address.
func TestHolds(t *testing.T) {
	ten := prefix4(0x0A010000, 16)
	wantHolds(t, ten, addr4(0x0A01FF03), true)
	wantHolds(t, ten, addr4(0x0A010000), true)
	wantHolds(t, ten, addr4(0x0A01FFFF), true)
	wantHolds(t, ten, addr4(0x0A020000), false)
	wantHolds(t, ten, addr4(0x0A00FFFF), false)
	wantHolds(t, ten, addr4(0x8A010000), false)
	fd := prefix6(0xFD00<<48, 0, 8)
	wantHolds(t, fd, addr6(0xFD00<<48, 0), true)
	wantHolds(t, fd, addr6(0xFDFF<<48|7, max64), true)
	wantHolds(t, fd, addr6(0xFE00<<48, 0), false)
	wantHolds(t, fd, addr6(0xFC00<<48, 0), false)
	across := prefix6(7, 1<<63, 65)
	wantHolds(t, across, addr6(7, max64), true)
	wantHolds(t, across, addr6(7, 1<<63), true)
	wantHolds(t, across, addr6(7, 1<<63-1), false)
	wantHolds(t, across, addr6(6, max64), false)
	wantHolds(t, prefix6(7, 0, 64), addr6(7, max64), true)
	wantHolds(t, prefix6(6, 0, 63), addr6(7, max64), true)
	wantHolds(t, prefix6(6, 0, 63), addr6(8, 0), false)
}

// P7.2: no bits hold all of the family, all bits hold one address.
func TestHoldsOfNoBitsAndOfAll(t *testing.T) {
	for _, a := range sampleAddrs(2) {
		wantHolds(t, prefix4(0, 0), a, a.Family == 4)
		wantHolds(t, prefix6(0, 0, 0), a, a.Family == 6)
		wantHolds(t, prefix4(0x0A010001, 32), a, a == addr4(0x0A010001))
		wantHolds(t, prefix6(1, 2, 128), a, a == addr6(1, 2))
		all := api.Prefix{Addr: a, Bits: 32}
		if a.Family == 6 {
			all.Bits = 128
		}
		wantHolds(t, all, a, true)
		near := a
		near.Lo ^= 1
		wantHolds(t, all, near, false)
	}
}

// P7.2: of two families never, though the numbers are the same.
func TestHoldsOfTwoFamilies(t *testing.T) {
	for n := range 33 {
		wantHolds(t, prefix4(0, n), addr6(0, 0), false)
		wantHolds(t, prefix4(0, n), addr4(0), true)
	}
	for n := range 129 {
		wantHolds(t, prefix6(0, 0, n), addr4(0), false)
		wantHolds(t, prefix6(0, 0, n), addr6(0, 0), true)
	}
	wantHolds(t, prefix4(0x0A010203, 32), addr6(0, 0x0A010203), false)
	wantHolds(t, prefix6(0, 0x0A010203, 128), addr4(0x0A010203), false)
	wantHolds(t, prefix4(0xFD000000, 8), addr6(0xFD<<56, 0), false)
	wantHolds(t, prefix6(0, max32, 128), addr4(max32), false)
}

// P7.2: what is no prefix holds nothing, what is no address is held by nothing.
func TestHoldsOfNone(t *testing.T) {
	for _, p := range noPrefixes() {
		for _, a := range []api.Addr{p.Addr, addr4(0), addr4(1), addr4(max32), addr6(0, 0), addr6(0, 1), addr6(max64, max64), noneAddr} {
			wantHolds(t, p, a, false)
		}
	}
	for _, a := range noAddrs() {
		wantHolds(t, prefix4(0, 0), a, false)
		wantHolds(t, prefix6(0, 0, 0), a, false)
		wantHolds(t, prefix4(max32, 32), a, false)
		wantHolds(t, api.Prefix{Addr: a}, a, false)
		wantHolds(t, api.Prefix{Addr: a, Bits: 32}, a, false)
	}
	for _, a := range []api.Addr{addr4(1 << 32), addr4(1<<32 + 0x0A010000), addr4(0x0A010000_00000000), {Family: 4, Hi: 1, Lo: 0x0A010000}, {Family: 5, Lo: 0x0A010000}, {Family: 260, Lo: 0x0A010000}} {
		wantHolds(t, prefix4(0x0A010000, 16), a, false)
		wantHolds(t, prefix4(0, 0), a, false)
	}
}

// P7.2: each bit of an address turned, for each number of Bits: it matters within them alone.
func TestHoldsOfEachBitTurned(t *testing.T) {
	s := newSampler(3)
	for _, width := range []int{32, 128} {
		all := []byte(s.bitText(width))
		for n := range width + 1 {
			p := prefixOf(string(all[:n]), width)
			wantHolds(t, p, addrOf(string(all)), true)
			for at := range all {
				all[at] ^= 1
				wantHolds(t, p, addrOf(string(all)), at >= n)
				all[at] ^= 1
			}
		}
	}
}

// P7.2: edges and samples against the plain words, near ones too.
func TestHoldsOfSamples(t *testing.T) {
	s := newSampler(4)
	addrs := append(sampleAddrs(5), noAddrs()[:200]...)
	for _, p := range append(samplePrefixes(6), noPrefixes()...) {
		for range 60 {
			a := addrs[s.IntN(len(addrs))]
			wantHolds(t, p, a, plainHolds(p, a))
		}
		near := p.Addr
		near.Lo ^= s.Uint64() >> s.IntN(64)
		wantHolds(t, p, near, plainHolds(p, near))
		near.Hi ^= s.Uint64() >> s.IntN(64)
		wantHolds(t, p, near, plainHolds(p, near))
	}
}

// P7.3: the first of Family, Bits, Hi and Lo that differs tells, whatever the later ones say.
func TestCompare(t *testing.T) {
	inOrder := []api.Prefix{
		prefix4(0, 0), prefix4(0, 8), prefix4(0x0A000000, 8), prefix4(0xFF000000, 8), prefix4(0x0A010000, 16), prefix4(0, 32), prefix4(1, 32), prefix4(max32, 32),
		prefix6(0, 0, 0), prefix6(0, 0, 1), prefix6(1<<63, 0, 1), prefix6(0xFD00<<48, 0, 8), prefix6(0, 0, 64), prefix6(1, 0, 64), prefix6(max64, 0, 64),
		prefix6(0, 0, 128), prefix6(0, 1, 128), prefix6(0, max64, 128), prefix6(1, 0, 128), prefix6(1, 1, 128), prefix6(max64, 0, 128), prefix6(max64, max64, 128),
	}
	for i, a := range inOrder {
		for j, b := range inOrder {
			want := 0
			if i < j {
				want = -1
			} else if i > j {
				want = 1
			}
			wantCompare(t, a, b, want)
		}
	}
}

// P7.3: also of what is no prefix; numbers so far from one another that their difference is none; great words are no negative ones.
func TestCompareOfNoPrefixes(t *testing.T) {
	for _, x := range []struct{ a, b api.Prefix }{
		{none, prefix4(0, 0)}, {prefix6(0, 0, 0), api.Prefix{Addr: api.Addr{Family: 7}}}, {prefix4(max64, 99), api.Prefix{Addr: api.Addr{Family: 5}, Bits: -1}},
		{api.Prefix{Addr: api.Addr{Family: -1, Hi: 9, Lo: 9}, Bits: 9}, none}, {api.Prefix{Addr: api.Addr{Family: math.MinInt, Hi: 9}}, api.Prefix{Addr: api.Addr{Family: math.MaxInt}}},
		{prefix4(9, -1), prefix4(0, 0)}, {prefix4(9, 33), prefix4(0, 34)}, {prefix4(9, math.MinInt), prefix4(0, math.MaxInt)}, {prefix6(9, 9, -2), prefix6(0, 0, -1)},
		{api.Prefix{Addr: api.Addr{Family: 4, Hi: 1, Lo: 9}}, api.Prefix{Addr: api.Addr{Family: 4, Hi: 2}}}, {prefix6(1<<63-1, 9, 0), prefix6(1<<63, 0, 0)}, {prefix6(0, 9, 3), prefix6(max64, 0, 3)},
		{prefix4(0, 0), prefix4(1, 0)}, {prefix4(1<<32-1, 32), prefix4(1<<32, 32)}, {prefix4(0, 5), prefix4(max64, 5)}, {prefix6(1, 1<<63-1, 0), prefix6(1, 1<<63, 0)},
	} {
		wantCompare(t, x.a, x.b, -1)
		wantCompare(t, x.b, x.a, 1)
		wantCompare(t, x.a, x.a, 0)
		wantCompare(t, x.b, x.b, 0)
	}
}

// P7.3: edges of all four numbers, any two of them.
func TestCompareOfAllEdges(t *testing.T) {
	var all []api.Prefix
	for _, family := range []int{math.MinInt, -1, 0, 4, 5, 6, math.MaxInt} {
		for _, n := range []int{math.MinInt, -1, 0, 8, 33, math.MaxInt} {
			for _, hi := range []uint64{0, 1, 1 << 63, max64} {
				for _, lo := range []uint64{0, 1, 1 << 63, max64} {
					all = append(all, api.Prefix{Addr: api.Addr{Family: family, Hi: hi, Lo: lo}, Bits: n})
				}
			}
		}
	}
	slices.SortFunc(all, plainOrder)
	for i, a := range all {
		wantCompare(t, a, a, 0)
		for _, b := range all[i+1:] {
			if prefix.Compare(a, b) != -1 || prefix.Compare(b, a) != 1 {
				t.Fatalf("Compare of %v and %v: %d, %d", a, b, prefix.Compare(a, b), prefix.Compare(b, a))
			}
		}
	}
}

// P7.4: four bytes or sixteen, the first bit the highest one of the first.
func TestPutAddr(t *testing.T) {
	wantPutAddr(t, addr4(0x0A010203), []byte{10, 1, 2, 3})
	wantPutAddr(t, addr4(0), []byte{0, 0, 0, 0})
	wantPutAddr(t, addr4(1), []byte{0, 0, 0, 1})
	wantPutAddr(t, addr4(1<<31), []byte{0x80, 0, 0, 0})
	wantPutAddr(t, addr4(max32), []byte{255, 255, 255, 255})
	wantPutAddr(t, addr6(0, 0), make([]byte, 16))
	wantPutAddr(t, addr6(0x0102030405060708, 0x090A0B0C0D0E0F10), []byte{1, 2, 3, 4, 5, 6, 7, 8, 9, 10, 11, 12, 13, 14, 15, 16})
	wantPutAddr(t, addr6(1<<63, 1), []byte{0x80, 0, 0, 0, 0, 0, 0, 0, 0, 0, 0, 0, 0, 0, 0, 1})
	wantPutAddr(t, addr6(max64, max64), bytes.Repeat([]byte{255}, 16))
}

// P7.4: family, bits, address.
func TestPut(t *testing.T) {
	wantPut(t, prefix4(0x0A010000, 16), unhex(t, "04 10 0a010000"))
	wantPut(t, prefix4(0, 0), unhex(t, "04 00 00000000"))
	wantPut(t, prefix4(max32, 32), unhex(t, "04 20 ffffffff"))
	wantPut(t, prefix4(0xFFFFFFFE, 31), unhex(t, "04 1f fffffffe"))
	wantPut(t, prefix6(0xFD00<<48, 0, 8), unhex(t, "06 08 fd00000000000000 0000000000000000"))
	wantPut(t, prefix6(0, 0, 0), unhex(t, "06 00 0000000000000000 0000000000000000"))
	wantPut(t, prefix6(max64, 1<<63, 65), unhex(t, "06 41 ffffffffffffffff 8000000000000000"))
	wantPut(t, prefix6(max64, max64, 128), unhex(t, "06 80 ffffffffffffffff ffffffffffffffff"))
	wantPut(t, prefix6(0x0102030405060708, 0x090A0B0C0D0E0F10, 128), unhex(t, "06 80 0102030405060708 090a0b0c0d0e0f10"))
}

// P7.4: edges and samples against the plain words; none of what is no address or prefix.
func TestPutOfSamples(t *testing.T) {
	for _, a := range append(edgeAddrs(), sampleAddrs(7)...) {
		wantPutAddr(t, a, plainPutAddr(a))
	}
	for _, p := range samplePrefixes(8) {
		wantPut(t, p, plainPut(p))
	}
	for _, a := range noAddrs() {
		wantPutAddr(t, a, nil)
		wantPut(t, api.Prefix{Addr: a}, nil)
		wantPut(t, api.Prefix{Addr: a, Bits: 32}, nil)
	}
	for _, p := range noPrefixes() {
		wantPut(t, p, nil)
	}
}

// P7.5: a prefix's bytes, at the beginning of others or alone.
func TestGet(t *testing.T) {
	wantGet(t, unhex(t, "04 10 0a010000"), prefix4(0x0A010000, 16), 6, api.OK)
	wantGet(t, unhex(t, "04 10 0a010000 ff"), prefix4(0x0A010000, 16), 6, api.OK)
	wantGet(t, unhex(t, "04 00 00000000"), prefix4(0, 0), 6, api.OK)
	wantGet(t, unhex(t, "04 20 ffffffff"), prefix4(max32, 32), 6, api.OK)
	wantGet(t, unhex(t, "06 08 fd00000000000000 0000000000000000"), prefix6(0xFD00<<48, 0, 8), 18, api.OK)
	wantGet(t, unhex(t, "06 00 0000000000000000 0000000000000000 04"), prefix6(0, 0, 0), 18, api.OK)
	wantGet(t, unhex(t, "06 80 ffffffffffffffff ffffffffffffffff"), prefix6(max64, max64, 128), 18, api.OK)
	wantGet(t, unhex(t, "06 80 0102030405060708 090a0b0c0d0e0f10 1112"), prefix6(0x0102030405060708, 0x090A0B0C0D0E0F10, 128), 18, api.OK)
}

// P7.5: the chapter's refusals, and what lies one step beyond a bound.
func TestGetOfWrongBytes(t *testing.T) {
	for _, text := range []string{
		"", "04", "06", "00", "04 00", "06 00", "04 10 0a010001", "04 10 0a018000", "04 21 00000000", "04 40 00000000", "04 80 00000000", "04 ff 00000000", "05 00 00000000", "04 00 000000",
		"04 00 80000000", "04 00 00000001", "04 1f ffffffff", "04 1f 00000001", "04 21 0000000000000000 0000000000000000", "04 21 00000001",
		"06 81 0000000000000000 0000000000000000", "06 ff 0000000000000000 0000000000000000", "06 c0 0000000000000000 0000000000000000", "06 7f 0000000000000000 0000000000000001", "06 00 8000000000000000 0000000000000000",
		"06 00 0000000000000000 0000000000000001", "06 40 0000000000000000 8000000000000000", "06 3f 0000000000000001 0000000000000000", "06 08 fd00000000000000 00000000000000", "06 10 0a010000",
		"05 00 0000000000000000 0000000000000000", "00 00 00000000", "00 00 0000000000000000 0000000000000000", "07 00 0000000000000000 0000000000000000", "02 00 00000000 00000000 00000000", "84 00 00000000", "86 00 0000000000000000 0000000000000000",
		"10 04 0a010000", "00 04 10 0a010000", "ff ff ffffffffffffffff ffffffffffffffff",
	} {
		wantNoBytes(t, unhex(t, text))
		if b := unhex(t, text); len(b) > 17 {
			wantNoBytes(t, append(b, 0, 0, 0))
		}
	}
}

// P7.5: all lengths; what lacks is not taken out of the spare room, what is behind is not looked at.
func TestGetOfAllLengths(t *testing.T) {
	for _, p := range []api.Prefix{prefix4(0, 0), prefix4(0x0A010000, 16), prefix4(max32, 32), prefix6(0, 0, 0), prefix6(0xFD00<<48, 0, 8), prefix6(max64, max64, 128)} {
		size := len(plainPut(p))
		for _, fill := range []byte{0, 4, 6, 0xFF} {
			all := append(plainPut(p), bytes.Repeat([]byte{fill}, 24)...)
			for n := range len(all) + 1 {
				if n < size {
					wantNoBytes(t, all[:n])
					wantNoBytes(t, bytes.Clone(all[:n]))
				} else {
					wantGet(t, all[:n], p, size, api.OK)
				}
			}
		}
		wantGet(t, append(plainPut(p), bytes.Repeat([]byte{1}, 1<<20)...), p, size, api.OK)
	}
	wantNoBytes(t, nil)
	wantNoBytes(t, []byte{})
	wantNoBytes(t, make([]byte, 1<<20))
}

// P7.5: all first two bytes, before zeros, before a first bit and before a last one.
func TestGetOfAllHeads(t *testing.T) {
	for family := range 256 {
		for n := range 256 {
			for _, behind := range [][]byte{make([]byte, 4), make([]byte, 16), {0x80, 3: 0}, {0x80, 15: 0}, {3: 1}, {15: 1}} {
				b := append([]byte{byte(family), byte(n)}, behind...)
				p, size, e := none, 0, api.ErrPrefixForm
				width := map[int]int{4: 32, 6: 128}[family]
				if width > 0 && n <= width && len(b) >= 2+width/8 {
					p, size, e = plainGet(b)
				}
				wantGet(t, b, p, size, e)
			}
		}
	}
}

// P7.5: each byte of some prefixes turned into each other one.
func TestGetOfNearBytes(t *testing.T) {
	for _, p := range []api.Prefix{prefix4(0, 0), prefix4(0x0A010000, 16), prefix4(0xFFFFFFFE, 31), prefix4(max32, 32), prefix6(0, 0, 0), prefix6(0xFD00<<48, 0, 8), prefix6(7, 1<<63, 65), prefix6(max64, max64-1, 127), prefix6(max64, max64, 128)} {
		b := plainPut(p)
		for i := range b {
			for x := range 256 {
				near := bytes.Clone(b)
				near[i] = byte(x)
				want, n, e := plainGet(near)
				wantGet(t, near, want, n, e)
			}
		}
	}
}

// P7.6: decimal numbers without zeros ahead; pairs of bytes as four small digits.
func TestPrintAddr(t *testing.T) {
	wantPrintAddr(t, addr4(0x0A010203), "10.1.2.3")
	wantPrintAddr(t, addr4(0), "0.0.0.0")
	wantPrintAddr(t, addr4(max32), "255.255.255.255")
	wantPrintAddr(t, addr4(0x640A6301), "100.10.99.1")
	wantPrintAddr(t, addr4(1<<31), "128.0.0.0")
	wantPrintAddr(t, addr6(0, 0), "0000:0000:0000:0000:0000:0000:0000:0000")
	wantPrintAddr(t, addr6(0x20010DB8<<32, 1), "2001:0db8:0000:0000:0000:0000:0000:0001")
	wantPrintAddr(t, addr6(max64, max64), "ffff:ffff:ffff:ffff:ffff:ffff:ffff:ffff")
	wantPrintAddr(t, addr6(0x0123456789ABCDEF, 0xF00F0FF000010010), "0123:4567:89ab:cdef:f00f:0ff0:0001:0010")
	wantPrintAddr(t, addr6(0, 0xFFFF0A010203), "0000:0000:0000:0000:0000:ffff:0a01:0203")
	wantPrintAddr(t, addr6(0, max32), "0000:0000:0000:0000:0000:0000:ffff:ffff")
}

// P7.6: the address, a stroke, the Bits.
func TestPrint(t *testing.T) {
	wantPrint(t, prefix4(0x0A010000, 16), "10.1.0.0/16")
	wantPrint(t, prefix4(0, 0), "0.0.0.0/0")
	wantPrint(t, prefix4(0, 9), "0.0.0.0/9")
	wantPrint(t, prefix4(max32, 32), "255.255.255.255/32")
	wantPrint(t, prefix6(0xFD00<<48, 0, 8), "fd00:0000:0000:0000:0000:0000:0000:0000/8")
	wantPrint(t, prefix6(0, 0, 0), "0000:0000:0000:0000:0000:0000:0000:0000/0")
	wantPrint(t, prefix6(0, 0, 100), "0000:0000:0000:0000:0000:0000:0000:0000/100")
	wantPrint(t, prefix6(max64, max64, 128), "ffff:ffff:ffff:ffff:ffff:ffff:ffff:ffff/128")
}

// P7.6: every byte and every pair at every place, edges and samples; none of what is no address or prefix.
func TestPrintOfSamples(t *testing.T) {
	for x := range uint64(256) {
		for at := range 4 {
			a := addr4(x << (8 * at))
			wantPrintAddr(t, a, plainPrintAddr(a))
		}
	}
	for x := range uint64(1 << 16) {
		hi := addr6(x<<(16*(x%4)), 0)
		lo := addr6(0, x<<(16*(x/4%4)))
		wantPrintAddr(t, hi, plainPrintAddr(hi))
		wantPrintAddr(t, lo, plainPrintAddr(lo))
	}
	for _, a := range sampleAddrs(9) {
		wantPrintAddr(t, a, plainPrintAddr(a))
	}
	for _, p := range samplePrefixes(10) {
		wantPrint(t, p, plainPrint(p))
	}
}

// P7.6: the empty text of what is no address or prefix.
func TestPrintOfNone(t *testing.T) {
	for _, a := range noAddrs() {
		wantPrintAddr(t, a, "")
		wantPrint(t, api.Prefix{Addr: a}, "")
		wantPrint(t, api.Prefix{Addr: a, Bits: 32}, "")
	}
	for _, p := range noPrefixes() {
		wantPrint(t, p, "")
	}
}
