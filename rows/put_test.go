package rows_test

import (
	"bytes"
	"fmt"
	"math"
	"slices"
	"strings"
	"testing"

	"culvert/api"
	"culvert/rows"
)

// P15.1: the bytes of each row, written out.
func TestPutBytes(t *testing.T) {
	k := bytes.Repeat([]byte{0xAB, 0xCD}, 16)
	hexed := strings.Repeat("ABCD", 16)
	for _, c := range []struct {
		p          api.Peer
		key, value string
	}{
		{peer(1, k), "50 00000001", hexed + "00"},
		{peer(0x01020304, k), "50 01020304", hexed + "00"},
		{peer(maxLink, k), "50 FFFFFFFF", hexed + "00"},
		{peer(2, k, pre("0.0.0.0/0")), "50 00000002", hexed + "01 04 00 00000000"},
		{peer(2, k, pre("1.2.3.4/32")), "50 00000002", hexed + "01 04 20 01020304"},
		{peer(2, k, pre("::/0")), "50 00000002", hexed + "01 06 00 00000000000000000000000000000000"},
		{peer(2, k, pre("102:304:506:708:90a:b0c:d0e:f10/128")), "50 00000002", hexed + "01 06 80 0102030405060708090A0B0C0D0E0F10"},
		{peer(2, k, pres("11.0.0.0/8", "10.1.0.0/16", "fd00::/8")...), "50 00000002", hexed + "03 04 08 0B000000 04 10 0A010000 06 08 FD000000000000000000000000000000"},
		{peer(2, k, rising4(9, 16)...), "50 00000002", hexed + "10" + sixteen("04 1C 000900%X0")},
		{peer(2, k, rising6(9, 16)...), "50 00000002", hexed + "10" + sixteen("06 80 0000000000000009 %X000000000000007")},
	} {
		r, e := rows.PutPeer(c.p)
		wantRow(t, fmt.Sprintf("PutPeer(%v)", c.p), r, e, hexRow(t, c.key, c.value))
	}
	for _, c := range []struct {
		l     api.Lane
		value string
	}{
		{api.Lane{Key: k, Cur: 1}, "00 00000001 00000000 0000000000000000 0000000000000000 0000000000000000 00000000"},
		{api.Lane{Key: k, Side: 1, Cur: maxGen, Next: maxGen, SendCur: math.MaxUint64, Ceil: math.MaxUint64, Seen: api.Stamp{Sec: maxSec, Nano: maxNano}}, "01 7FFFFFFF 7FFFFFFF FFFFFFFFFFFFFFFF FFFFFFFFFFFFFFFF 7FFFFFFFFFFFFFFF 3B9AC9FF"},
		{api.Lane{Key: k, Cur: 0x01020304, Next: 0x05060708, SendCur: 0x090A0B0C0D0E0F10, Ceil: 0x1112131415161718, Seen: api.Stamp{Sec: 0x191A1B1C1D1E1F20, Nano: 0x21222324}}, "00 01020304 05060708 090A0B0C0D0E0F10 1112131415161718 191A1B1C1D1E1F20 21222324"},
	} {
		r, e := rows.PutLane(c.l)
		wantRow(t, fmt.Sprintf("PutLane(%v)", c.l), r, e, hexRow(t, "4C"+hexed, c.value))
	}
	for n, value := range map[int]string{0: "0000000000000000", 1: "0000000000000001", 258: "0000000000000102", 0x0102030405060708: "0102030405060708", maxBoots: "4000000000000000"} {
		r, e := rows.PutBoots(n)
		wantRow(t, fmt.Sprintf("PutBoots(%d)", n), r, e, hexRow(t, "42", value))
	}
}

// sixteen is a form filled with the numbers 0 to 15, one behind the other.
func sixteen(form string) string {
	out := ""
	for i := range 16 {
		out += fmt.Sprintf(form, i)
	}
	return out
}

// twist makes one field of a thing something else; ok tells whether it still may be.
type twist[T any] struct {
	field, name string
	ok          bool
	do          func(*T)
}

// twisted calls with the thing that each twist makes by itself, and each two of unlike fields.
func twisted[T any](base func() T, l []twist[T], call func(name string, thing T, ok bool)) {
	for i, a := range l {
		one := base()
		a.do(&one)
		call(a.field+" "+a.name, one, a.ok)
		for _, b := range l[i+1:] {
			if a.field == b.field {
				continue
			}
			two := base()
			a.do(&two)
			b.do(&two)
			call(a.field+" "+a.name+", "+b.field+" "+b.name, two, a.ok && b.ok)
		}
	}
}

// numbers are twists of a field to numbers at its bounds, one beyond them, and such as look right where their highest bits are cut off. (One beyond the greatest int is the least one.)
func numbers[T any](field string, least, most int, at func(*T) *int) []twist[T] {
	var out []twist[T]
	list := []int{math.MinInt, math.MinInt + least, -1 << 32, -most, -2, -1, 0, 1, 2, 3, least - 1, least, least + 1, most - 1, most, most + 1, most + 2, 255, 256, 257, 1 << 31, 1<<32 - 1, 1 << 32, 1<<32 + 1, 1<<32 + least, 1 << 40, 1<<62 - 1, 1 << 62, 1<<62 + 1, math.MaxInt - 1, math.MaxInt}
	slices.Sort(list)
	for _, x := range slices.Compact(list) {
		out = append(out, twist[T]{field, fmt.Sprint(x), x >= least && x <= most, func(thing *T) { *at(thing) = x }})
	}
	return out
}

// keys are twists of a key to other lengths.
func keys[T any](at func(*T) *[]byte) []twist[T] {
	var out []twist[T]
	for _, n := range []int{0, 1, 2, 16, 31, 32, 33, 34, 64, 256, 32 + 256, 65536 + 32} {
		out = append(out, twist[T]{"key", fmt.Sprint(n), n == 32, func(thing *T) { *at(thing) = counted(n, n) }})
	}
	return append(out,
		twist[T]{"key", "nil", false, func(thing *T) { *at(thing) = nil }},
		twist[T]{"key", "32 zeros", true, func(thing *T) { *at(thing) = make([]byte, 32) }})
}

// noPrefixes are none, each for one reason.
func noPrefixes() map[string]api.Prefix {
	of := func(family int, hi, lo uint64, bits int) api.Prefix {
		return api.Prefix{Addr: api.Addr{Family: family, Hi: hi, Lo: lo}, Bits: bits}
	}
	return map[string]api.Prefix{
		"the zero one":                 {},
		"of no family 5":               of(5, 0, 0, 8),
		"of no family 0":               of(0, 0, 0, 8),
		"of no family -4":              of(-4, 0, 0, 8),
		"of a family that is 4 cut":    of(256+4, 0, 10<<24, 8),
		"of a family that is 6 cut":    of(256+6, 0, 0, 8),
		"4 with -1 bits":               of(4, 0, 0, -1),
		"4 with 33 bits":               of(4, 0, 10<<24, 33),
		"4 with 256 bits":              of(4, 0, 0, 256),
		"4 with 256 + 8 bits":          of(4, 0, 10<<24, 264),
		"4 with the least bits":        of(4, 0, 0, math.MinInt),
		"6 with -1 bits":               of(6, 0, 0, -1),
		"6 with 129 bits":              of(6, 1, 1, 129),
		"6 with 256 + 8 bits":          of(6, 0, 0, 264),
		"6 with the most bits":         of(6, 0, 0, math.MaxInt),
		"4 with a bit behind 8":        of(4, 0, 10<<24|1<<23, 8),
		"4 with the last bit behind 8": of(4, 0, 10<<24|1, 8),
		"4 with a bit behind 0":        of(4, 0, 1<<31, 0),
		"4 with a bit behind 31":       of(4, 0, 1, 31),
		"4 beyond 32 bits":             of(4, 0, 1<<32, 8),
		"4 with a high half":           of(4, 1, 10<<24, 8),
		"6 with a bit behind 127":      of(6, 0, 1, 127),
		"6 with a bit behind 64":       of(6, 1, 1<<63, 64),
		"6 with a bit behind 8":        of(6, 0xFD<<56|1<<55, 0, 8),
		"6 with a bit behind 0":        of(6, 1<<63, 0, 0),
	}
}

// prefixLists are twists of a peer's prefixes.
func prefixLists() []twist[api.Peer] {
	var out []twist[api.Peer]
	add := func(name string, ok bool, l []api.Prefix) {
		out = append(out, twist[api.Peer]{"prefixes", name, ok, func(p *api.Peer) { p.Prefixes = l }})
	}
	for _, n := range []int{0, 1, 2, 15, 16, 17, 18, 32, 255, 256, 257, 256 + 16, 4096} {
		add(fmt.Sprint(n, " of 4"), n <= 16, rising4(1, n))
		add(fmt.Sprint("4 and ", n, " of 6"), n <= 15, append(pres("10.0.0.0/8"), rising6n(n)...))
	}
	add("the empty list", true, []api.Prefix{})
	add("all addresses of both families", true, pres("0.0.0.0/0", "::/0"))
	add("each in the one ahead of it", true, pres("0.0.0.0/0", "10.0.0.0/8", "10.0.0.0/9", "10.0.0.0/32"))
	add("rising by bits, not by addresses", true, pres("255.0.0.0/8", "10.0.0.0/16"))
	add("4 ahead of 6, though of more bits", true, pres("255.255.255.255/32", "::/0"))
	add("rising by the high halves", true, pres("::1/128", "0:0:0:1::/128"))
	for name, one := range noPrefixes() {
		add(name+" alone", false, []api.Prefix{one})
		add(name+" first", false, append([]api.Prefix{one}, rising6(1, 15)...))
		add(name+" last", false, append(rising4(1, 15), one))
		add(name+" between", false, slices.Concat(rising4(1, 3), []api.Prefix{one}, rising6(1, 3)))
	}
	add("one twice", false, pres("10.0.0.0/8", "10.0.0.0/8"))
	add("one of 6 twice", false, pres("fd00::/8", "fd00::/8"))
	add("one twice at the end", false, append(rising4(1, 15), rising4(1, 15)[14]))
	add("one twice, apart", false, pres("10.0.0.0/8", "11.0.0.0/8", "10.0.0.0/8"))
	add("two that fall", false, pres("11.0.0.0/8", "10.0.0.0/8"))
	add("two that fall by bits", false, pres("10.0.0.0/16", "10.0.0.0/8"))
	add("two that fall by family", false, pres("::/0", "0.0.0.0/0"))
	add("two that fall by the high halves", false, pres("0:0:0:1::/128", "::1/128"))
	add("two that fall by the low halves", false, pres("::2/128", "::1/128"))
	falling := rising4(1, 16)
	falling[14], falling[15] = falling[15], falling[14]
	add("the last two fall", false, falling)
	return out
}

// rising6n are any number of prefixes of the family 6.
func rising6n(n int) []api.Prefix {
	var out []api.Prefix
	for i := range n {
		out = append(out, api.Prefix{Addr: api.Addr{Family: 6, Lo: uint64(i)}, Bits: 128})
	}
	return out
}

func peerTwists() []twist[api.Peer] {
	return slices.Concat(
		numbers("link", 1, maxLink, func(p *api.Peer) *int { return &p.Link }),
		keys(func(p *api.Peer) *[]byte { return &p.Key }),
		prefixLists())
}

func laneTwists() []twist[api.Lane] {
	out := slices.Concat(
		keys(func(l *api.Lane) *[]byte { return &l.Key }),
		numbers("side", 0, 1, func(l *api.Lane) *int { return &l.Side }),
		numbers("cur", 1, maxGen, func(l *api.Lane) *int { return &l.Cur }),
		numbers("next", 0, maxGen, func(l *api.Lane) *int { return &l.Next }),
		numbers("sec", 0, maxSec, func(l *api.Lane) *int { return &l.Seen.Sec }),
		numbers("nano", 0, maxNano, func(l *api.Lane) *int { return &l.Seen.Nano }))
	for _, x := range []uint64{0, 1, 2, 1 << 31, 1 << 32, 1<<62 + 1, 1<<63 - 1, 1 << 63, math.MaxUint64 - 2, math.MaxUint64 - 1, math.MaxUint64} {
		out = append(out,
			twist[api.Lane]{"send", fmt.Sprint(x), true, func(l *api.Lane) { l.SendCur = x }},
			twist[api.Lane]{"ceil", fmt.Sprint(x), true, func(l *api.Lane) { l.Ceil = x }})
	}
	return out
}

// P15.1: a peer's bounds, at them and one beyond, each by itself and two at once; the zero row where it may not be.
func TestPutPeerBounds(t *testing.T) {
	base := func() api.Peer { return peer(5, key(5), pres("10.0.0.0/8", "fd00::/8")...) }
	twisted(base, peerTwists(), func(name string, p api.Peer, ok bool) {
		if _, plain := plainPutPeer(p); plain != ok {
			t.Fatalf("%s: the plain form says %v", name, plain)
		}
		wantPutPeer(t, p)
	})
	for _, p := range somePeers() {
		if _, ok := plainPutPeer(p); !ok {
			t.Fatalf("%v may not be", p)
		}
		wantPutPeer(t, p)
	}
	wantPutPeer(t, api.Peer{})
}

// P15.1: the same of a lane.
func TestPutLaneBounds(t *testing.T) {
	base := func() api.Lane { return lane(key(5), 8) }
	twisted(base, laneTwists(), func(name string, l api.Lane, ok bool) {
		if _, plain := plainPutLane(l); plain != ok {
			t.Fatalf("%s: the plain form says %v", name, plain)
		}
		wantPutLane(t, l)
	})
	for _, l := range someLanes() {
		if _, ok := plainPutLane(l); !ok {
			t.Fatalf("%v may not be", l)
		}
		wantPutLane(t, l)
	}
	wantPutLane(t, api.Lane{})
}

// P15.1: the same of the boots.
func TestPutBootsBounds(t *testing.T) {
	base := func() int { return 5 }
	twisted(base, numbers("boots", 0, maxBoots, func(n *int) *int { return n }), func(name string, n int, ok bool) {
		if _, plain := plainPutBoots(n); plain != ok {
			t.Fatalf("%s: the plain form says %v", name, plain)
		}
		wantPutBoots(t, n)
	})
	for _, n := range someBoots() {
		wantPutBoots(t, n)
	}
}
