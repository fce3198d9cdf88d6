package route_test

import (
	"math"
	"strings"
	"testing"

	"culvert/api"
	"culvert/prefix"
	"culvert/route"
)

// The numbers that the tests lean on are those of the document's table.
func TestErrorNumbers(t *testing.T) {
	if api.ErrPrefixForm != 70 || api.ErrRouteTwice != 80 || api.ErrRouteLink != 81 || api.ErrRouteNone != 82 || api.MaxLink != 4294967295 {
		t.Error("the numbers are others")
	}
}

// The chapter's examples.
func TestExamples(t *testing.T) {
	two, f := made(t, entry{prefix4(0x0A000000, 8), 1}, entry{prefix4(0x0A010000, 16), 2})
	for a, want := range map[uint64]int{0x0A010203: 2, 0x0A020203: 1, 0x0B000001: 0} {
		if link, ok := two.Find(addr4(a)); link != want || ok != (want > 0) {
			t.Errorf("Find(%x) = %d, %v", a, link, ok)
		}
	}
	wantNoWith(t, two, prefix4(0x0A010000, 16), 3, api.ErrRouteTwice)
	wantNoWith(t, two, prefix4(0x0A010001, 16), 3, api.ErrPrefixForm)
	wantNoWith(t, two, prefix4(0x0A010000, 17), 0, api.ErrRouteLink)
	wantNoWithout(t, two, prefix4(0x0A010000, 17), api.ErrRouteNone)
	one := without(t, two, prefix4(0x0A010000, 16))
	if link, ok := one.Find(addr4(0x0A010203)); link != 1 || !ok {
		t.Errorf("Find behind Without = %d, %v", link, ok)
	}
	wantTable(t, two, f)
	both, f := made(t, entry{prefix6(0, 0, 0), 5}, entry{prefix4(0, 0), 4})
	if f[0] != (entry{prefix4(0, 0), 4}) || f[1] != (entry{prefix6(0, 0, 0), 5}) {
		t.Errorf("the order is %v", f)
	}
	wantTable(t, both, f)
}

// P8.1: the table without a prefix finds nothing, goes over nothing, and has nothing to be taken out.
func TestEmptyTable(t *testing.T) {
	for range 2 {
		x := route.New()
		wantTable(t, x, nil)
		for _, y := range some() {
			for _, a := range around(y.p) {
				wantFind(t, x, nil, a)
			}
			wantNoWithout(t, x, y.p, api.ErrRouteNone)
			with(t, x, y.p, y.link)
		}
		for _, p := range noPrefixes() {
			wantNoWithout(t, x, p, api.ErrPrefixForm)
			wantNoWith(t, x, p, 1, api.ErrPrefixForm)
		}
		wantTable(t, x, nil)
	}
}

// P8.2: a table with one prefix, of each number of bits, with all bits 0, all 1, and the last one alone.
func TestWithOne(t *testing.T) {
	for _, width := range widths {
		for n := range width + 1 {
			zeros, ones := strings.Repeat("0", n), strings.Repeat("1", n)
			for _, first := range []string{zeros, ones, filled("", "0", max(n-1, 0)) + ones[:min(n, 1)]} {
				x, f := made(t, entry{prefixOf(first, width), n + 1})
				wantTable(t, x, f)
				wantTable(t, without(t, x, prefixOf(first, width)), nil)
			}
		}
	}
}

// P8.2: what is no prefix is refused, whatever the link, and whatever the table has.
func TestWithOfNoPrefix(t *testing.T) {
	x, f := made(t, some()...)
	for _, p := range noPrefixes() {
		for _, link := range []int{1, api.MaxLink, 0, -1, api.MaxLink + 1} {
			wantNoWith(t, x, p, link, api.ErrPrefixForm)
		}
	}
	wantTable(t, x, f)
}

// P8.2: links are 1 to MaxLink; one that is none is told ahead of a prefix that the table has.
func TestWithLinks(t *testing.T) {
	x, f := made(t, some()...)
	free := prefix4(0x0A010000, 17)
	for _, link := range []int{0, -1, -2, api.MaxLink + 1, api.MaxLink + 2, 1 << 33, 1<<40 + 1, -api.MaxLink, math.MinInt, math.MinInt + 1, math.MaxInt} {
		wantNoWith(t, x, free, link, api.ErrRouteLink)
		wantNoWith(t, route.New(), free, link, api.ErrRouteLink)
		for _, y := range f {
			wantNoWith(t, x, y.p, link, api.ErrRouteLink)
		}
	}
	for _, link := range []int{1, 2, 255, 256, 1 << 16, 1 << 31, api.MaxLink - 1, api.MaxLink} {
		wantTable(t, with(t, x, free, link), f.with(free, link))
	}
	wantTable(t, x, f)
}

// P8.2: a prefix that the table has is refused, with the same link and with another one; with what it held and what held it there is no such error.
func TestWithTwice(t *testing.T) {
	x, f := made(t, some()...)
	for _, y := range f {
		for _, link := range []int{y.link, 1, 13, api.MaxLink} {
			wantNoWith(t, x, y.p, link, api.ErrRouteTwice)
		}
	}
	wantTable(t, x, f)
	for _, y := range f {
		for _, p := range []api.Prefix{shorter(y.p), longer(y.p, "0"), longer(y.p, "1"), other(y.p)} {
			if prefix.Valid(p) && !f.has(p) {
				wantTable(t, with(t, x, p, y.link), f.with(p, y.link))
			}
		}
	}
}

// shorter is a prefix of one bit less; none, if there is none.
func shorter(p api.Prefix) api.Prefix {
	if p.Bits == 0 {
		return api.Prefix{}
	}
	return prefixOf(firstBits(p)[:p.Bits-1], widthOf(p))
}

// longer is a prefix of one bit more; none, if there is none.
func longer(p api.Prefix, sign string) api.Prefix {
	if p.Bits == widthOf(p) {
		return api.Prefix{}
	}
	return prefixOf(firstBits(p)+sign, widthOf(p))
}

// other has the same first bits and is of the other family; none, if there are too many of them.
func other(p api.Prefix) api.Prefix {
	if p.Bits > 32 {
		return api.Prefix{}
	}
	return prefixOf(firstBits(p), 32+128-widthOf(p))
}

// P8.2, P8.3: the bits that two prefixes have in common are not in the table: they are found neither by Find nor by Without, and may be brought in, also with what they part taken out ahead.
func TestForkIsNoPrefix(t *testing.T) {
	for _, x := range []struct{ one, two, both api.Prefix }{
		{prefix4(0x0A000000, 8), prefix4(0x0B000000, 8), prefix4(0x0A000000, 7)},
		{prefix4(0, 1), prefix4(1<<31, 1), prefix4(0, 0)},
		{prefix4(0, 32), prefix4(max32, 32), prefix4(0, 0)},
		{prefix4(2, 32), prefix4(3, 32), prefix4(2, 31)},
		{prefix6(2, 0, 64), prefix6(3, 0, 64), prefix6(2, 0, 63)},
		{prefix6(2, 0, 65), prefix6(2, 1<<63, 65), prefix6(2, 0, 64)},
		{prefix6(2, 0, 66), prefix6(2, 1<<62, 66), prefix6(2, 0, 65)},
		{prefix6(0, 0, 128), prefix6(max64, max64, 128), prefix6(0, 0, 0)},
	} {
		table, f := made(t, entry{x.one, 1}, entry{x.two, 2})
		wantNoWithout(t, table, x.both, api.ErrRouteNone)
		for _, a := range around(x.both) {
			wantFind(t, table, f, a)
		}
		three, g := with(t, table, x.both, 3), f.with(x.both, 3)
		wantTable(t, three, g)
		wantNoWith(t, three, x.both, 4, api.ErrRouteTwice)
		wantTable(t, without(t, three, x.one), g.without(x.one))
		wantTable(t, without(t, three, x.two), g.without(x.two))
		again := without(t, three, x.both)
		wantTable(t, again, f)
		wantNoWithout(t, again, x.both, api.ErrRouteNone)
		wantTable(t, with(t, again, x.both, 5), f.with(x.both, 5))
	}
}

// P8.3: what is no prefix, and what the table does not have, is not taken out: also what is within, around or beside what it has.
func TestWithoutOfWhatIsNotThere(t *testing.T) {
	x, f := made(t, some()...)
	for _, p := range noPrefixes() {
		wantNoWithout(t, x, p, api.ErrPrefixForm)
	}
	for _, y := range f {
		one, _ := made(t, y)
		first, width := firstBits(y.p), widthOf(y.p)
		near := []api.Prefix{other(y.p)}
		for n := range width + 1 {
			near = append(near, prefixOf(filled(first, "0", width)[:n], width), prefixOf(filled(first, "1", width)[:n], width))
		}
		for at := range first {
			near = append(near, prefixOf(turned(first, at), width))
		}
		for _, p := range near {
			if !prefix.Valid(p) {
				continue
			}
			if p != y.p {
				wantNoWithout(t, one, p, api.ErrRouteNone)
			}
			if !f.has(p) {
				wantNoWithout(t, x, p, api.ErrRouteNone)
			}
		}
	}
	wantTable(t, x, f)
}

// P8.3: each of many is taken out alone, and all of them one by one, forwards, backwards and mixed, until none is left.
func TestWithoutEach(t *testing.T) {
	x, f := made(t, some()...)
	for _, y := range f {
		less := without(t, x, y.p)
		wantTable(t, less, f.without(y.p))
		wantNoWithout(t, less, y.p, api.ErrRouteNone)
	}
	s := newSampler(3)
	orders := [][]entry{some(), f}
	for range 40 {
		orders = append(orders, s.shuffled(f))
	}
	for _, order := range orders {
		less, g := x, f
		for _, y := range order {
			less, g = without(t, less, y.p), g.without(y.p)
			wantTable(t, less, g)
		}
		wantTable(t, less, nil)
	}
	wantTable(t, x, f)
}

// P8.4: what is no address is not found, whatever the table has.
func TestFindOfNoAddress(t *testing.T) {
	x, _ := made(t, some()...)
	for _, a := range noAddrs() {
		if link, ok := x.Find(a); link != 0 || ok {
			t.Errorf("Find(%v) = %d, %v", a, link, ok)
		}
	}
}

// P8.4: a prefix of 0 bits holds all of its family, and none of the other.
func TestFindOfOneFamily(t *testing.T) {
	four, _ := made(t, entry{prefix4(0, 0), 4})
	six, _ := made(t, entry{prefix6(0, 0, 0), 6})
	s := newSampler(4)
	for range 2000 {
		a4, a6 := addr4(uint64(s.Uint32())), addr6(s.Uint64(), s.Uint64())
		for _, x := range []struct {
			table *route.Table
			a     api.Addr
			want  int
		}{{four, a4, 4}, {four, a6, 0}, {six, a4, 0}, {six, a6, 6}, {four, addr6(0, a4.Lo), 0}, {six, addr4(a6.Lo & max32), 0}} {
			if link, ok := x.table.Find(x.a); link != x.want || ok != (x.want > 0) {
				t.Errorf("Find(%v) = %d, %v, want %d", x.a, link, ok, x.want)
			}
		}
	}
}

// P8.4: of prefixes of every number of bits within one another the longest one that holds it tells the link: an address that leaves the innermost one in a bit has that of as many bits as it shares.
func TestFindInNest(t *testing.T) {
	s := newSampler(5)
	for _, width := range widths {
		for _, innermost := range []string{filled("", "0", width), filled("", "1", width), strings.Repeat("01", width/2), strings.Repeat("0111", width/4)} {
			var nest []entry
			for n := range width + 1 {
				nest = append(nest, entry{prefixOf(innermost[:n], width), n + 1})
			}
			x, f := made(t, s.shuffled(nest)...)
			wantTable(t, x, f)
			for at := range width {
				if link, ok := x.Find(addrOf(turned(innermost, at))); link != at+1 || !ok {
					t.Errorf("Find of what shares %d bits with %s = %d, %v", at, innermost, link, ok)
				}
			}
			if link, ok := x.Find(addrOf(innermost)); link != width+1 || !ok {
				t.Errorf("Find(%s) = %d, %v", innermost, link, ok)
			}
		}
	}
}

// P8.4: of all prefixes that leave one address in one bit each, and of their first and last addresses, every one finds its own, and the address none.
func TestFindBesideOneAnother(t *testing.T) {
	s := newSampler(6)
	for _, width := range widths {
		for _, spine := range []string{filled("", "0", width), filled("", "1", width), strings.Repeat("10", width/2)} {
			var comb []entry
			for at := range width {
				comb = append(comb, entry{prefixOf(turned(spine, at)[:at+1], width), at + 1})
			}
			x, f := made(t, s.shuffled(comb)...)
			wantTable(t, x, f)
			for at := range width {
				for _, sign := range []string{"0", "1"} {
					a := addrOf(filled(turned(spine, at)[:at+1], sign, width))
					if link, ok := x.Find(a); link != at+1 || !ok {
						t.Errorf("Find of what leaves %s in bit %d = %d, %v", spine, at, link, ok)
					}
				}
			}
			if link, ok := x.Find(addrOf(spine)); link != 0 || ok {
				t.Errorf("Find(%s) = %d, %v", spine, link, ok)
			}
		}
	}
}

// P8.4: two prefixes of all bits that part in one bit, each bit in turn.
func TestFindPartingInEachBit(t *testing.T) {
	for _, width := range widths {
		for _, one := range []string{filled("", "0", width), filled("", "1", width), strings.Repeat("0110", width/4)} {
			for at := range width {
				two := turned(one, at)
				for _, order := range [][]string{{one, two}, {two, one}} {
					x, f := made(t, entry{prefixOf(order[0], width), 1}, entry{prefixOf(order[1], width), 2})
					wantTable(t, x, f)
				}
			}
		}
	}
}
