package route_test

import (
	"fmt"
	"math"
	"math/rand/v2"
	"slices"
	"strconv"
	"strings"
	"testing"

	"culvert/api"
	"culvert/prefix"
	"culvert/route"
)

// The chapter's words by other means: a table is a flat list, an address is a text of 32 or 128 zeros and ones.

const (
	max32 = 1<<32 - 1
	max64 = 1<<64 - 1
)

var widths = []int{32, 128}

func addr4(lo uint64) api.Addr { return api.Addr{Family: 4, Lo: lo} }

func addr6(hi, lo uint64) api.Addr { return api.Addr{Family: 6, Hi: hi, Lo: lo} }

func prefix4(lo uint64, n int) api.Prefix { return api.Prefix{Addr: addr4(lo), Bits: n} }

func prefix6(hi, lo uint64, n int) api.Prefix { return api.Prefix{Addr: addr6(hi, lo), Bits: n} }

// bitsOf are an address's bits, from the first on.
func bitsOf(a api.Addr) string {
	if a.Family == 4 {
		return fmt.Sprintf("%032b", a.Lo)
	}
	return fmt.Sprintf("%064b%064b", a.Hi, a.Lo)
}

// addrOf is the address whose bits these 32 or 128 are.
func addrOf(all string) api.Addr {
	lo, _ := strconv.ParseUint(all[max(0, len(all)-64):], 2, 64)
	if len(all) == 32 {
		return addr4(lo)
	}
	hi, _ := strconv.ParseUint(all[:64], 2, 64)
	return addr6(hi, lo)
}

// prefixOf is the prefix with just these bits.
func prefixOf(first string, width int) api.Prefix {
	return api.Prefix{Addr: addrOf(filled(first, "0", width)), Bits: len(first)}
}

func firstBits(p api.Prefix) string { return bitsOf(p.Addr)[:p.Bits] }

func widthOf(p api.Prefix) int { return len(bitsOf(p.Addr)) }

func filled(first, sign string, width int) string {
	return first + strings.Repeat(sign, width-len(first))
}

// turned is a text of zeros and ones with another sign at one place.
func turned(text string, at int) string {
	b := []byte(text)
	b[at] ^= 1
	return string(b)
}

// neighbour is the text of zeros and ones that is one more or less as a number; false, if it has no more room.
func neighbour(all string, up bool) (string, bool) {
	sign, other := "0", "1"
	if !up {
		sign, other = "1", "0"
	}
	at := strings.LastIndex(all, sign)
	if at < 0 {
		return "", false
	}
	return all[:at] + other + strings.Repeat(sign, len(all)-at-1), true
}

type entry struct {
	p    api.Prefix
	link int
}

// flat is a table as a list in the order of its prefixes.
type flat []entry

func (f flat) with(p api.Prefix, link int) flat {
	out := append(slices.Clone(f), entry{p, link})
	slices.SortFunc(out, func(a, b entry) int { return prefix.Compare(a.p, b.p) })
	return out
}

func (f flat) without(p api.Prefix) flat {
	return slices.DeleteFunc(slices.Clone(f), func(x entry) bool { return x.p == p })
}

func (f flat) has(p api.Prefix) bool {
	return slices.ContainsFunc(f, func(x entry) bool { return x.p == p })
}

// find goes through the whole list.
func (f flat) find(a api.Addr) (int, bool) {
	link, most := 0, -1
	for _, x := range f {
		if prefix.Holds(x.p, a) && x.p.Bits > most {
			link, most = x.link, x.p.Bits
		}
	}
	return link, most >= 0
}

// around are the first and the last address of a prefix, the ones beside them, one within, and ones that leave it in its last and its first bit.
func around(p api.Prefix) []api.Addr {
	first, width := firstBits(p), widthOf(p)
	all := []string{filled(first, "0", width), filled(first, "1", width), filled(first+strings.Repeat("01", width)[:(width-len(first))/2], "0", width)}
	if before, ok := neighbour(all[0], false); ok {
		all = append(all, before)
	}
	if after, ok := neighbour(all[1], true); ok {
		all = append(all, after)
	}
	if p.Bits > 0 {
		all = append(all, filled(turned(first, p.Bits-1), "0", width), filled(turned(first, p.Bits-1), "1", width), filled(turned(first, 0), "1", width))
	}
	var out []api.Addr
	for _, x := range all {
		out = append(out, addrOf(x))
	}
	return out
}

// places are addresses around all prefixes of a list, and the ends of both families.
func (f flat) places() []api.Addr {
	out := []api.Addr{addr4(0), addr4(max32), addr4(0x0A000001), addr6(0, 0), addr6(0, 0x0A000001), addr6(max64, max64), addr6(1<<63, 0)}
	for _, x := range f {
		out = append(out, around(x.p)...)
	}
	return out
}

func listOf(x *route.Table) flat {
	var out flat
	for p, link := range x.All() {
		out = append(out, entry{p, link})
	}
	return out
}

// wantFind: what going through the flat list tells.
func wantFind(t *testing.T, x *route.Table, f flat, a api.Addr) {
	t.Helper()
	want, wantOK := f.find(a)
	if link, ok := x.Find(a); link != want || ok != wantOK {
		t.Fatalf("Find(%v) = %d, %v, want %d, %v, of %v", a, link, ok, want, wantOK, f)
	}
}

// wantTable: all that a table tells is what the list tells.
func wantTable(t *testing.T, x *route.Table, f flat) {
	t.Helper()
	if x == nil {
		t.Fatalf("no table, want %v", f)
	}
	if n := x.Len(); n != len(f) {
		t.Fatalf("Len() = %d, want %d, of %v", n, len(f), f)
	}
	if got := listOf(x); !slices.Equal(got, f) {
		t.Fatalf("All() goes over %v, want %v", got, f)
	}
	for _, a := range f.places() {
		wantFind(t, x, f, a)
	}
}

func with(t *testing.T, x *route.Table, p api.Prefix, link int) *route.Table {
	t.Helper()
	y, e := x.With(p, link)
	if y == nil || e != api.OK {
		t.Fatalf("With(%v, %d) = %v, %d", p, link, y, e)
	}
	return y
}

func without(t *testing.T, x *route.Table, p api.Prefix) *route.Table {
	t.Helper()
	y, e := x.Without(p)
	if y == nil || e != api.OK {
		t.Fatalf("Without(%v) = %v, %d", p, y, e)
	}
	return y
}

// made is the table that has these, brought in in this order, and the same as a list.
func made(t *testing.T, entries ...entry) (*route.Table, flat) {
	t.Helper()
	x, f := route.New(), flat(nil)
	for _, y := range entries {
		x, f = with(t, x, y.p, y.link), f.with(y.p, y.link)
	}
	return x, f
}

// wantNoWith: the error, and no table.
func wantNoWith(t *testing.T, x *route.Table, p api.Prefix, link int, want api.Errno) {
	t.Helper()
	if y, e := x.With(p, link); y != nil || e != want {
		t.Fatalf("With(%v, %d) = %v, %d, want no table and %d", p, link, y, e, want)
	}
}

func wantNoWithout(t *testing.T, x *route.Table, p api.Prefix, want api.Errno) {
	t.Helper()
	if y, e := x.Without(p); y != nil || e != want {
		t.Fatalf("Without(%v) = %v, %d, want no table and %d", p, y, e, want)
	}
}

func edgeFamilies() []int {
	return []int{5, 3, 7, 0, 1, 2, 8, -4, -6, 256 + 4, 256 + 6, 1<<32 + 4, 1<<32 + 6, math.MinInt + 4, math.MinInt, math.MaxInt}
}

func noAddrs() []api.Addr {
	out := []api.Addr{addr4(1 << 32), addr4(1<<32 + 0x0A010203), addr4(max64), {Family: 4, Hi: 1}, {Family: 4, Hi: 1 << 63, Lo: 0x0A010203}, {Family: 4, Hi: max64, Lo: max64}}
	for _, family := range edgeFamilies() {
		out = append(out, api.Addr{Family: family}, api.Addr{Family: family, Lo: 0x0A010203}, api.Addr{Family: family, Hi: max64, Lo: max64})
	}
	return out
}

// noPrefixes are none, each by one thing alone.
func noPrefixes() []api.Prefix {
	out := []api.Prefix{
		prefix4(1, 31), prefix4(1, 0), prefix4(1<<31, 0), prefix4(0x0A010001, 16), prefix4(0x0A018000, 16), prefix4(0, 33), prefix4(0, 64), prefix4(0, 128), prefix4(0, -1), prefix4(0, 256),
		prefix6(0, 1, 127), prefix6(0, 1, 0), prefix6(0, 1, 64), prefix6(1<<63, 0, 0), prefix6(1, 0, 63), prefix6(0, 1<<63, 64), prefix6(0, 1<<62, 65), prefix6(0, 0, 129), prefix6(0, 0, -1), prefix6(0, 0, 256),
		prefix4(0, math.MinInt), prefix4(0, math.MaxInt), prefix6(0, 0, math.MinInt), prefix6(0, 0, math.MaxInt),
	}
	for _, a := range noAddrs() {
		for _, n := range []int{0, 16, 32, 128} {
			out = append(out, api.Prefix{Addr: a, Bits: n})
		}
	}
	return out
}

// some are prefixes of both families, of 0 bits, of all of them and of around 64, within one another and side by side.
func some() []entry {
	return []entry{
		{prefix4(0, 0), 4}, {prefix4(0x0A000000, 8), 1}, {prefix4(0x0A010000, 16), 2}, {prefix4(0x0A010203, 32), 7}, {prefix4(0x0A010202, 32), 1}, {prefix4(0x0B000000, 8), 9}, {prefix4(0x80000000, 1), 3},
		{prefix6(0, 0, 0), 5}, {prefix6(0xFD<<56, 0, 8), 6}, {prefix6(0xFD<<56|1, 0, 64), 8}, {prefix6(0xFD<<56, 0, 63), 11}, {prefix6(0xFD<<56|1, 1<<63, 65), 12}, {prefix6(0xFD<<56|1, max64, 128), api.MaxLink}, {prefix6(0xFD<<56|1, max64-1, 128), 1},
	}
}

type sampler struct{ *rand.Rand }

func newSampler(seed uint64) sampler { return sampler{rand.New(rand.NewPCG(seed, 8))} }

func (s sampler) link() int { return 1 + s.IntN(5) }

// prefix is one whose bits are 0 but a few, so that many of them nest and part late.
func (s sampler) prefix() api.Prefix {
	width := widths[s.IntN(2)]
	first := strings.Repeat("0", s.IntN(width+1))
	for range s.IntN(3) {
		if first != "" {
			first = turned(first, s.IntN(len(first)))
		}
	}
	return prefixOf(first, width)
}

func (s sampler) shuffled(entries []entry) []entry {
	out := slices.Clone(entries)
	s.Shuffle(len(out), func(i, j int) { out[i], out[j] = out[j], out[i] })
	return out
}
