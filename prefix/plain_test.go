package prefix_test

import (
	"bytes"
	"encoding/hex"
	"fmt"
	"math"
	"math/rand/v2"
	"regexp"
	"slices"
	"strconv"
	"strings"

	"culvert/api"
)

// The chapter's words by other means: an address is a text of 32 or 128 zeros and ones, a text is a pattern.

const (
	max32 = 1<<32 - 1
	max64 = 1<<64 - 1
)

var (
	none     api.Prefix
	noneAddr api.Addr
)

func addr4(lo uint64) api.Addr { return api.Addr{Family: 4, Lo: lo} }

func addr6(hi, lo uint64) api.Addr { return api.Addr{Family: 6, Hi: hi, Lo: lo} }

func prefix4(lo uint64, n int) api.Prefix { return api.Prefix{Addr: addr4(lo), Bits: n} }

func prefix6(hi, lo uint64, n int) api.Prefix { return api.Prefix{Addr: addr6(hi, lo), Bits: n} }

// onesAndZeros are an address's bits, from the first on; false, if it is no address.
func onesAndZeros(a api.Addr) (string, bool) {
	low := fmt.Sprintf("%032b", a.Lo)
	switch {
	case a.Family == 6:
		return fmt.Sprintf("%064b%064b", a.Hi, a.Lo), true
	case a.Family == 4 && a.Hi == 0 && len(low) == 32:
		return low, true
	}
	return "", false
}

// addrOf is the address whose bits these 32 or 128 are.
func addrOf(all string) api.Addr {
	lo, _ := strconv.ParseUint(all[max(0, len(all)-64):], 2, 64)
	if len(all) == 32 {
		return addr4(lo)
	}
	hi, _ := strconv.ParseUint(all[:64], 2, 64)
	return addr6(hi, lo)
}

// prefixOf is the prefix with just these bits, filled up to 32 or 128.
func prefixOf(first string, width int) api.Prefix {
	return api.Prefix{Addr: addrOf(first + strings.Repeat("0", width-len(first))), Bits: len(first)}
}

func plainValidAddr(a api.Addr) bool {
	_, ok := onesAndZeros(a)
	return ok
}

// plainFirst are the bits of a prefix that count; false, if it is no prefix.
func plainFirst(p api.Prefix) (string, bool) {
	all, ok := onesAndZeros(p.Addr)
	if !ok || p.Bits < 0 || p.Bits > len(all) || strings.Contains(all[p.Bits:], "1") {
		return "", false
	}
	return all[:p.Bits], true
}

func plainValid(p api.Prefix) bool {
	_, ok := plainFirst(p)
	return ok
}

func plainHolds(p api.Prefix, a api.Addr) bool {
	first, isPrefix := plainFirst(p)
	all, isAddr := onesAndZeros(a)
	return isPrefix && isAddr && p.Addr.Family == a.Family && strings.HasPrefix(all, first)
}

// plainOrder holds four numbers against four others, all of them as texts of one length.
func plainOrder(a, b api.Prefix) int {
	return strings.Compare(orderText(a), orderText(b))
}

func orderText(p api.Prefix) string {
	const half = 1 << 63 // so that the least int is 0
	return fmt.Sprintf("%020d %020d %020d %020d", uint64(p.Addr.Family)+half, uint64(p.Bits)+half, p.Addr.Hi, p.Addr.Lo)
}

func plainPutAddr(a api.Addr) []byte {
	all, _ := onesAndZeros(a)
	var out []byte
	for eight := range slices.Chunk([]byte(all), 8) {
		x, _ := strconv.ParseUint(string(eight), 2, 8)
		out = append(out, byte(x))
	}
	return out
}

func plainPut(p api.Prefix) []byte {
	if !plainValid(p) {
		return nil
	}
	b, _ := hex.DecodeString(fmt.Sprintf("%02x%02x%x", p.Addr.Family, p.Bits, plainPutAddr(p.Addr)))
	return b
}

// plainGet asks of all that could be laid down with these first two bytes whether b begins with it.
func plainGet(b []byte) (api.Prefix, int, api.Errno) {
	for family, size := range map[byte]int{4: 6, 6: 18} {
		if len(b) < size || b[0] != family {
			continue
		}
		var all strings.Builder
		for _, x := range b[2:size] {
			fmt.Fprintf(&all, "%08b", x)
		}
		p := api.Prefix{Addr: addrOf(all.String()), Bits: int(b[1])}
		if plainValid(p) && bytes.Equal(plainPut(p), b[:size]) {
			return p, size, api.OK
		}
	}
	return none, 0, api.ErrPrefixForm
}

func plainPrintAddr(a api.Addr) string {
	b := plainPutAddr(a)
	switch len(b) {
	case 4:
		return fmt.Sprintf("%d.%d.%d.%d", b[0], b[1], b[2], b[3])
	case 16:
		return strings.TrimSuffix(regexp.MustCompile("....").ReplaceAllString(hex.EncodeToString(b), "$0:"), ":")
	}
	return ""
}

func plainPrint(p api.Prefix) string {
	if !plainValid(p) {
		return ""
	}
	return fmt.Sprintf("%s/%d", plainPrintAddr(p.Addr), p.Bits)
}

var (
	fourPattern = regexp.MustCompile(`\A(?:(?:0|[1-9][0-9]?|1[0-9][0-9]|2[0-4][0-9]|25[0-5])(?:\.|\z)){4}\z`)
	sixPattern  = regexp.MustCompile(`\A[0-9a-f]{4}(?::[0-9a-f]{4}){7}\z`)
	bitsPattern = regexp.MustCompile(`\A(.*)/(0|[1-9][0-9]{0,2})\z`)
)

func plainParseAddr(t string) (api.Addr, api.Errno) {
	var all strings.Builder
	switch {
	case fourPattern.MatchString(t) && !strings.HasSuffix(t, "."):
		for _, part := range strings.Split(t, ".") {
			x, _ := strconv.Atoi(part)
			fmt.Fprintf(&all, "%08b", x)
		}
	case sixPattern.MatchString(t):
		b, _ := hex.DecodeString(strings.ReplaceAll(t, ":", ""))
		for _, x := range b {
			fmt.Fprintf(&all, "%08b", x)
		}
	default:
		return noneAddr, api.ErrPrefixForm
	}
	return addrOf(all.String()), api.OK
}

func plainParse(t string) (api.Prefix, api.Errno) {
	found := bitsPattern.FindStringSubmatch(t)
	if found == nil {
		return none, api.ErrPrefixForm
	}
	a, e := plainParseAddr(found[1])
	n, _ := strconv.Atoi(found[2])
	p := api.Prefix{Addr: a, Bits: n}
	if e != api.OK || !plainValid(p) {
		return none, api.ErrPrefixForm
	}
	return p, api.OK
}

// edgeFamilies are 4 and 6, their neighbours, and numbers that are 4 or 6 in their lowest bytes or but for a sign.
func edgeFamilies() []int {
	return []int{
		4, 5, 6, 3, 7, 0, 1, 2, 8, 10, 12, 32, 128, -1, -4, -5, -6, 255, 256 + 4, 256 + 6, -256 + 4, -256 + 6,
		1<<16 + 4, 1<<32 + 4, 1<<32 + 6, math.MinInt + 4, math.MinInt + 6, math.MinInt, math.MaxInt,
	}
}

func edgeWords() []uint64 {
	return []uint64{0, 1, 2, 0x80, 1 << 31, max32, max32 - 1, 1 << 32, 1<<32 + 1, 1 << 33, 1 << 62, 1 << 63, 1<<63 + 1, max32 << 32, max64 - 1, max64}
}

func edgeBits() []int {
	return []int{
		-1, 0, 1, 2, 7, 8, 16, 24, 30, 31, 32, 33, 34, 63, 64, 65, 66, 95, 96, 97, 126, 127, 128, 129, 130, 160, 192, 255, 256, 257, 256 + 8, 256 + 32,
		-2, -32, -64, -128, -256, -256 + 8, 1 << 16, 1 << 32, 1<<32 + 8, -1 << 32, math.MinInt, math.MinInt + 1, math.MinInt + 8, math.MaxInt, math.MaxInt - 1,
	}
}

// edgeAddrs are all of the edge families with all edge words.
func edgeAddrs() []api.Addr {
	var out []api.Addr
	for _, family := range edgeFamilies() {
		for _, hi := range edgeWords() {
			for _, lo := range edgeWords() {
				out = append(out, api.Addr{Family: family, Hi: hi, Lo: lo})
			}
		}
	}
	return out
}

// noAddrs are those of the edges that are none.
func noAddrs() []api.Addr {
	return slices.DeleteFunc(edgeAddrs(), plainValidAddr)
}

// noPrefixes are prefixes that are none, each by one thing alone, and by all of them.
func noPrefixes() []api.Prefix {
	out := []api.Prefix{
		none, prefix4(1, 31), prefix4(1, 0), prefix4(1<<31, 0), prefix4(max32, 31), prefix4(0x0A010001, 16), prefix4(0x0A018000, 16), prefix4(0, 33), prefix4(0, 128), prefix4(0, 64), prefix4(0, -1), prefix4(0, 256), prefix4(0, 257), prefix4(1, 33),
		prefix4(1<<32, 0), prefix4(1<<32, 32), prefix4(1<<32, 64), prefix4(1<<63, 1), prefix4(max64, 32), prefix6(0, 1, 127), prefix6(0, 1, 0), prefix6(0, 1, 64), prefix6(1<<63, 0, 0), prefix6(1, 0, 63), prefix6(0, 1<<63, 64), prefix6(0, 1<<62, 65),
		prefix6(max64, max64, 127), prefix6(0, 0, 129), prefix6(0, 0, -1), prefix6(0, 0, 256), prefix6(0, 0, 257), prefix6(1<<63, 0, 129), prefix6(0, 0, 192), prefix6(0, 0, math.MinInt), prefix6(0, 0, math.MaxInt), prefix4(0, math.MinInt), prefix4(0, math.MaxInt),
		{Addr: api.Addr{Family: 4, Hi: 1}, Bits: 32}, {Addr: api.Addr{Family: 4, Hi: 1}, Bits: 0}, {Addr: api.Addr{Family: 4, Hi: 1 << 63}, Bits: 1},
	}
	for _, family := range edgeFamilies() {
		if family != 4 && family != 6 {
			for _, n := range []int{0, 8, 32, 128} {
				out = append(out, api.Prefix{Addr: api.Addr{Family: family}, Bits: n})
			}
		}
	}
	return out
}

type sampler struct{ *rand.Rand }

func newSampler(seed uint64) sampler { return sampler{rand.New(rand.NewPCG(seed, 7))} }

// width is that of one of the two families.
func (s sampler) width() int { return []int{32, 128}[s.IntN(2)] }

// bitText is n bits, now and then all alike, or all alike but one.
func (s sampler) bitText(n int) string {
	out := []byte(strings.Repeat(string("01"[s.IntN(2)]), n))
	switch kind := s.IntN(4); {
	case kind == 1 && n > 0:
		out[s.IntN(n)] ^= 1
	case kind > 1:
		for i := range out {
			out[i] = "01"[s.IntN(2)]
		}
	}
	return string(out)
}

func (s sampler) addr() api.Addr { return addrOf(s.bitText(s.width())) }

func (s sampler) prefix() api.Prefix {
	width := s.width()
	return prefixOf(s.bitText(s.IntN(width+1)), width)
}

// sampleAddrs are edges and samples, addresses all of them.
func sampleAddrs(seed uint64) []api.Addr {
	out := slices.DeleteFunc(edgeAddrs(), func(a api.Addr) bool { return !plainValidAddr(a) })
	s := newSampler(seed)
	for range 1000 {
		out = append(out, s.addr())
	}
	return out
}

// samplePrefixes are of each number of bits those with all bits 0, all 1, the first and the last one alone, and samples.
func samplePrefixes(seed uint64) []api.Prefix {
	var out []api.Prefix
	for _, width := range []int{32, 128} {
		for n := range width + 1 {
			zeros, ones := strings.Repeat("0", n), strings.Repeat("1", n)
			out = append(out, prefixOf(zeros, width))
			if n > 0 {
				out = append(out, prefixOf(ones, width), prefixOf("1"+zeros[1:], width), prefixOf(zeros[1:]+"1", width))
			}
		}
	}
	s := newSampler(seed)
	for range 1000 {
		out = append(out, s.prefix())
	}
	return out
}
