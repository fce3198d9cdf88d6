package prefix_test

import (
	"bytes"
	"fmt"
	"slices"
	"strings"
	"testing"

	"culvert/api"
	"culvert/prefix"
)

// bitsOf are the n lowest bits of x, the highest first.
func bitsOf(x, n int) string {
	if n == 0 {
		return ""
	}
	return fmt.Sprintf("%0*b", n, x)
}

// branch are all prefixes that begin with stem and have up to four bits more, some that are shorter, and addresses that each of them parts differently.
func branch(stem string, width int) (prefixes []api.Prefix, addrs []api.Addr) {
	for n := range len(stem) {
		prefixes = append(prefixes, prefixOf(stem[:n], width))
	}
	for n := range 5 {
		for x := range 1 << n {
			prefixes = append(prefixes, prefixOf(stem+bitsOf(x, n), width))
		}
	}
	for x := range 1 << 4 {
		for _, fill := range []string{"0", "1", "01"} {
			all := stem + bitsOf(x, 4) + strings.Repeat(fill, width)
			addrs = append(addrs, addrOf(all[:width]))
		}
	}
	for n := range len(stem) { // those that part from the stem at each of its bits
		all := stem[:n] + string(stem[n]^1) + strings.Repeat("10", width)
		addrs = append(addrs, addrOf(all[:width]))
	}
	return prefixes, addrs
}

// heldBy tells of each address whether a prefix holds it.
func heldBy(p api.Prefix, addrs []api.Addr) []bool {
	held := make([]bool, len(addrs))
	for i, a := range addrs {
		held[i] = prefix.Holds(p, a)
	}
	return held
}

// shared counts the addresses that the first alone, the second alone and both hold.
func shared(p, q []bool) (first, second, both int) {
	for i := range p {
		switch {
		case p[i] && q[i]:
			both++
		case p[i]:
			first++
		case q[i]:
			second++
		}
	}
	return first, second, both
}

// P7.9: two prefixes of one family nest or have nothing in common: at the first bits, around the middle and at the last ones, where all addresses are tried.
func TestPrefixesNestOrPart(t *testing.T) {
	s := newSampler(14)
	for _, width := range []int{32, 128} {
		for _, at := range []int{0, 1, 14, 28, 30, 60, 62, 64, 66, 124} {
			if at+4 > width {
				continue
			}
			prefixes, addrs := branch(s.bitText(at), width)
			var held [][]bool
			for _, p := range prefixes {
				held = append(held, heldBy(p, addrs))
			}
			nested, parted := 0, 0
			for i, p := range prefixes {
				for j, q := range prefixes {
					first, second, both := shared(held[i], held[j])
					if both > 0 && first > 0 && second > 0 {
						t.Errorf("%v and %v have %d addresses in common, and hold %d and %d others", p, q, both, first, second)
					}
					if both > 0 {
						nested++
					} else {
						parted++
					}
				}
			}
			if nested == 0 || parted == 0 {
				t.Errorf("width %d, at %d: %d pairs nest, %d part", width, at, nested, parted)
			}
		}
	}
}

// P7.9: which of the two it is: the one with fewer bits holds the other one, if it holds its first address.
func TestWhichPrefixHoldsWhich(t *testing.T) {
	s := newSampler(15)
	for range 20000 {
		width := s.width()
		all := s.bitText(width)
		n, m := s.IntN(width+1), s.IntN(width+1)
		short, long := prefixOf(all[:min(n, m)], width), prefixOf(all[:max(n, m)], width)
		a := addrOf(all[:max(n, m)] + s.bitText(width-max(n, m)))
		if !prefix.Holds(long, a) || !prefix.Holds(short, a) || !prefix.Holds(short, long.Addr) {
			t.Errorf("%v is not held by %v and by %v", a, short, long)
		}
		if n == 0 || m == 0 {
			continue
		}
		// Both part at one bit within the shorter one: no address is in both.
		turned := []byte(all)
		turned[s.IntN(min(n, m))] ^= 1
		other := prefixOf(string(turned[:min(n, m)]), width)
		b := addrOf(string(turned[:min(n, m)]) + s.bitText(width-min(n, m)))
		if prefix.Holds(other, a) || prefix.Holds(short, b) || prefix.Holds(long, b) || !prefix.Holds(other, b) {
			t.Errorf("%v and %v have %v or %v in common", short, other, a, b)
		}
	}
}

// P7.9: the two families have nothing in common, whatever their bits.
func TestFamiliesPart(t *testing.T) {
	for _, p := range samplePrefixes(16) {
		for _, a := range []api.Addr{addr4(p.Addr.Lo & max32), addr4(p.Addr.Hi >> 32), addr6(p.Addr.Hi, p.Addr.Lo), addr6(p.Addr.Lo<<32, 0), addr6(0, p.Addr.Lo)} {
			if prefix.Holds(p, a) && p.Addr.Family != a.Family {
				t.Errorf("Holds(%v, %v) of two families", p, a)
			}
		}
	}
}

// P7.9: the bytes, compared byte by byte, stand in the order of Compare.
func TestCompareIsTheOrderOfTheBytes(t *testing.T) {
	prefixes := samplePrefixes(17)
	laid := make([][]byte, len(prefixes))
	for i, p := range prefixes {
		laid[i] = prefix.Put(p)
	}
	for i, p := range prefixes {
		for j, q := range prefixes {
			if got := prefix.Compare(p, q); got != bytes.Compare(laid[i], laid[j]) {
				t.Fatalf("Compare(%v, %v) = %d, of the bytes %d", p, q, got, -got)
			}
		}
	}
	sorted := slices.SortedFunc(slices.Values(prefixes), prefix.Compare)
	if !slices.IsSortedFunc(sorted, func(p, q api.Prefix) int { return bytes.Compare(plainPut(p), plainPut(q)) }) {
		t.Error("prefixes in the order of Compare have bytes that are not in order")
	}
}

// P7.9: Compare of near ones, those of one bit unlike and one bit longer.
func TestCompareOfNearPrefixes(t *testing.T) {
	s := newSampler(18)
	for range 20000 {
		p := s.prefix()
		width := map[int]int{4: 32, 6: 128}[p.Addr.Family]
		first, _ := plainFirst(p)
		near := []byte(first)
		if len(near) > 0 {
			near[s.IntN(len(near))] ^= 1
		}
		if len(near) < width && s.IntN(2) == 0 {
			near = append(near, "01"[s.IntN(2)])
		}
		q := prefixOf(string(near), width)
		wantCompare(t, p, q, bytes.Compare(prefix.Put(p), prefix.Put(q)))
		wantCompare(t, q, p, bytes.Compare(prefix.Put(q), prefix.Put(p)))
	}
}

// P7.9: no prefix's bytes begin another one's: of all pairs, so also of the two families.
func TestNoneBeginsAnother(t *testing.T) {
	prefixes := samplePrefixes(19)
	for _, p := range prefixes {
		b := prefix.Put(p)
		for _, q := range prefixes {
			if p != q && bytes.HasPrefix(prefix.Put(q), b) {
				t.Fatalf("the bytes of %v begin those of %v", p, q)
			}
		}
	}
}

// P7.9: there and back by bytes, whatever stands behind them, one prefix behind the other too.
func TestGetOfPut(t *testing.T) {
	s := newSampler(20)
	var all []byte
	prefixes := samplePrefixes(21)
	for _, p := range prefixes {
		b := prefix.Put(p)
		wantGet(t, b, p, len(b), api.OK)
		wantGet(t, append(b, byte(s.Uint32()), byte(s.Uint32())), p, len(b), api.OK)
		all = append(all, b...)
	}
	for _, p := range prefixes {
		got, n, e := prefix.Get(all)
		if got != p || e != api.OK {
			t.Fatalf("Get of many = %v, %d, want %v", got, e, p)
		}
		all = all[n:]
	}
	wantNoBytes(t, all)
}

// P7.9: whatever bytes Get takes are Put of its answer, and it takes all that the plain words take.
func TestPutOfGet(t *testing.T) {
	s := newSampler(22)
	took := 0
	for range 50000 {
		b := make([]byte, s.IntN(24))
		for i := range b[:s.IntN(len(b)+1)] {
			b[i] = byte(s.Uint32() >> s.IntN(32))
		}
		if len(b) > 1 {
			b[0] = []byte{4, 6, 4, 6, 5, byte(s.Uint32())}[s.IntN(6)]
			b[1] = byte(s.IntN(140))
		}
		want, size, wantErr := plainGet(b)
		wantGet(t, b, want, size, wantErr)
		if p, n, e := prefix.Get(b); e == api.OK {
			took++
			wantPut(t, p, b[:n])
		}
	}
	if took == 0 {
		t.Error("no bytes were taken")
	}
}

// P7.9: there and back by text, of addresses too.
func TestParseOfPrint(t *testing.T) {
	for _, p := range samplePrefixes(23) {
		wantParse(t, prefix.Print(p), p, api.OK)
		wantParseAddr(t, prefix.PrintAddr(p.Addr), p.Addr, api.OK)
	}
	for _, a := range sampleAddrs(24) {
		wantParseAddr(t, prefix.PrintAddr(a), a, api.OK)
	}
}

// roughText is a text that is right often enough: numbers and signs drawn one by one.
func (s sampler) roughText() string {
	sep, most, parts := ".", 300, 4
	if s.IntN(2) == 0 {
		sep, most, parts = ":", 1<<16, 8
	}
	var numbers []string
	for range parts + s.IntN(12)/11 - s.IntN(12)/11 {
		number := s.IntN(most) >> s.IntN(10)
		form := "%d"
		if sep == ":" {
			form = []string{"%04x", "%04x", "%04x", "%04x", "%04x", "%04x", "%04x", "%04x", "%04x", "%x", "%04X", "%05x"}[s.IntN(12)]
		}
		numbers = append(numbers, fmt.Sprintf(form, number*s.IntN(2)))
	}
	text := strings.Join(numbers, sep)
	return text + []string{"", "/32", "/128", fmt.Sprintf("/%d", s.IntN(130)), "/"}[s.IntN(5)]
}

// P7.9: whatever text Parse or ParseAddr takes is Print of its answer, and they take all that have the form.
func TestPrintOfParse(t *testing.T) {
	s := newSampler(25)
	tookAddrs, tookPrefixes := 0, 0
	for range 50000 {
		text := s.roughText()
		asPlain(t, text)
		if a, e := prefix.ParseAddr(text); e == api.OK {
			tookAddrs++
			wantPrintAddr(t, a, text)
		}
		if p, e := prefix.Parse(text); e == api.OK {
			tookPrefixes++
			wantPrint(t, p, text)
		}
	}
	if tookAddrs < 100 || tookPrefixes < 100 {
		t.Errorf("taken: %d texts of addresses, %d of prefixes", tookAddrs, tookPrefixes)
	}
}

// P7.9: unlike prefixes have unlike bytes and unlike texts; the families too.
func TestUnlikePrefixes(t *testing.T) {
	byBytes, byText := map[string]api.Prefix{}, map[string]api.Prefix{}
	for _, p := range samplePrefixes(26) {
		b, text := string(prefix.Put(p)), prefix.Print(p)
		if other, twice := byBytes[b]; twice && other != p {
			t.Errorf("%v and %v have the bytes %x", p, other, b)
		}
		if other, twice := byText[text]; twice && other != p {
			t.Errorf("%v and %v have the text %s", p, other, text)
		}
		byBytes[b], byText[text] = p, p
	}
}
