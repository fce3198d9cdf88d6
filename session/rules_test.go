package session_test

import (
	"fmt"
	"slices"
	"testing"

	"culvert/api"
)

// lively is a session that has had some of everything: Cur is 4, Next 7, Seen 2.0; what was taken of 4 is 0 and 100, of the older 3 (whose floor is 40) 41 and 120; the openings are 5, 6 and 7, with the stamps 5.0, 5.000000001 and 7.0; Ceil is 104.
func lively(t *testing.T, side int) *both {
	t.Helper()
	b := newBoth(t, api.Lane{Key: key(5), Side: side, Cur: 3, Next: 2, SendCur: 100, Ceil: 40, Seen: stampOf(1, 0)}, params(4, 64))
	b.wantTaken(t, "data", b.data(3, 41), home(), api.TkDelivered, 1)
	b.wantTaken(t, "data", b.data(3, 120), home(), api.TkDelivered, 1)
	b.wantTaken(t, "an init", b.init(4, 0, stampOf(2, 0)), home(), api.TkAnswered, 1)
	b.wantTaken(t, "data", b.data(4, 100), home(), api.TkDelivered, 1)
	b.wantInit(t, "init", stampOf(5, 0), 5, stampOf(5, 0))
	b.wantInit(t, "init", stampOf(5, 0), 6, stampOf(5, 1))
	b.wantInit(t, "init", stampOf(7, 0), 7, stampOf(7, 0))
	return b
}

// spec is how a packet is made.
type spec struct {
	kind, link, gen int
	counter         uint64
	text            []byte
	key             []byte
	side            int
	way             way
	turn            func(b []byte) []byte // what becomes of it on the way
}

func (x spec) packet() []byte {
	b := sealed(x.key, x.side, headOf(x.kind, x.link, x.gen, x.counter), x.text)
	if x.turn != nil {
		return x.turn(b)
	}
	return b
}

// breach is one way not to meet a rule.
type breach struct {
	rule int
	code api.Errno
	what string
	do   func(x *spec)
}

// breachesOfAll are those that packets of each type may have.
func breachesOfAll(side int) []breach {
	out := []breach{
		{2, api.DropPeer, "another link", func(x *spec) { x.link = 8 }},
		{2, api.DropPeer, "the link 1", func(x *spec) { x.link = 1 }},
		{2, api.DropPeer, "the last link", func(x *spec) { x.link = maxLink }},
		{2, api.DropPeer, "a bit of the link", func(x *spec) { x.link = 7 + 1<<31 }},
		{5, api.DropSeal, "this side's own", func(x *spec) { x.side = side }},
		{5, api.DropSeal, "another key", func(x *spec) { x.key = key(6) }},
	}
	turned := func(rule int, code api.Errno, what string, turn func(b []byte) []byte) {
		out = append(out, breach{rule, code, what, func(x *spec) {
			ahead := x.turn
			x.turn = func(b []byte) []byte {
				if ahead != nil {
					b = ahead(b)
				}
				return turn(b)
			}
		}})
	}
	turned(1, api.DropForm, "nothing", func([]byte) []byte { return nil })
	turned(1, api.DropForm, "the head alone", func(b []byte) []byte { return b[:min(20, len(b))] })
	turned(1, api.DropForm, "too long", func(b []byte) []byte { return append(slices.Clone(b), make([]byte, 1300)...) })
	for i, x := range map[int]byte{0: 4, 1: 1, 2: 128, 3: 1, 8: 128} { // the type, the three zeros, the generation's highest bit
		turned(1, api.DropForm, fmt.Sprint("the byte ", i), func(b []byte) []byte {
			if len(b) > i {
				b[i] |= x
			}
			return b
		})
	}
	turned(5, api.DropSeal, "the last byte turned", func(b []byte) []byte {
		if len(b) > 20 {
			b[len(b)-1] ^= 1
		}
		return b
	})
	turned(5, api.DropSeal, "the first sealed byte turned", func(b []byte) []byte {
		if len(b) > 20 {
			b[20] ^= 128
		}
		return b
	})
	return out
}

func breach3(gen int) breach {
	return breach{3, api.DropGen, fmt.Sprint("the generation ", gen), func(x *spec) { x.gen = gen }}
}

func breach4(gen int, counter uint64) breach {
	return breach{4, api.DropReplay, fmt.Sprint("the counter ", counter), func(x *spec) { x.counter = counter }}
}

func breach6(code api.Errno, what string, text []byte) breach {
	return breach{6, code, what, func(x *spec) { x.text = text }}
}

func breach7(what string, w way) breach {
	return breach{7, api.DropSource, what, func(x *spec) { x.way = w }}
}

func initBreaches() []breach {
	return []breach{
		breach3(4), breach3(3), breach3(2), breach3(1),
		breach6(api.DropStamp, "Seen", stampBytes(stampOf(2, 0))),
		breach6(api.DropStamp, "below Seen", stampBytes(stampOf(1, maxNano))),
		breach6(api.DropStamp, "the zero stamp", stampBytes(api.Stamp{})),
		breach6(api.DropStamp, "no nanoseconds", []byte{0, 0, 0, 0, 0, 0, 0, 9, 0x3B, 0x9A, 0xCA, 0x00}),
		breach6(api.DropStamp, "no seconds", []byte{0x80, 0, 0, 0, 0, 0, 0, 9, 0, 0, 0, 0}),
		breach6(api.DropStamp, "no stamp at all", slices.Repeat([]byte{255}, 12)),
	}
}

func replyBreaches() []breach {
	return []breach{
		breach3(4), breach3(3), breach3(1), breach3(8), breach3(9), breach3(maxGen),
		breach6(api.DropStamp, "an elder opening's", stampBytes(stampOf(5, 0))),
		breach6(api.DropStamp, "a newer opening's", stampBytes(stampOf(7, 0))),
		breach6(api.DropStamp, "one above", stampBytes(stampOf(5, 2))),
		breach6(api.DropStamp, "the zero stamp", stampBytes(api.Stamp{})),
		breach6(api.DropStamp, "one bit of the seconds", []byte{0x80, 0, 0, 0, 0, 0, 0, 5, 0, 0, 0, 1}),
		breach6(api.DropStamp, "no stamp at all", slices.Repeat([]byte{255}, 12)),
	}
}

// dataBreaches are of data of the generation 4; of the elder 3, in which other counters have been taken, likewise.
func dataBreaches(gen int) []breach {
	out := []breach{
		breach3(2), breach3(1), breach3(5), breach3(6), breach3(7), breach3(8), breach3(maxGen),
		breach6(api.DropPayload, "the family 5", append([]byte{5}, fromTo(1, 2, "")[1:]...)),
		breach6(api.DropPayload, "the family 6, too short", append([]byte{6}, fromTo(1, 2, "")[1:]...)),
		breach6(api.DropPayload, "zeros", make([]byte, 12)),
		breach7("no prefix", noWay()),
		breach7("another link", noWay().to("0.0.0.0/0", 8)),
		breach7("another link's longer prefix", home().to("10.0.0.1/32", 8)),
		breach7("the destination's alone", noWay().to("10.1.0.0/16", link)),
		breach7("of the other family", noWay().to("::/0", link)),
	}
	for _, c := range map[int][]uint64{4: {0, 100, 36, 1}, 3: {120, 41, 39, 56, 0}}[gen] {
		out = append(out, breach4(gen, c))
	}
	return out
}

// arrival is a packet that is taken, with all the ways in which it would not be.
type arrival struct {
	what     string
	good     spec
	kind     int
	commits  int
	breaches []breach
}

func arrivals(side int) []arrival {
	of := func(kind, gen int, counter uint64, text []byte) spec {
		return spec{kind: kind, link: link, gen: gen, counter: counter, text: text, key: key(5), side: 1 - side, way: home()}
	}
	all := func(more []breach) []breach { return append(breachesOfAll(side), more...) }
	return []arrival{
		{"an init", of(pkInit, 5, 0, stampBytes(stampOf(2, 1))), api.TkAnswered, 1, all(initBreaches())},
		{"an init with a counter", of(pkInit, 20, 77, stampBytes(greatest())), api.TkAnswered, 1, all(initBreaches())},
		{"a reply", of(pkReply, 6, 1, stampBytes(stampOf(5, 1))), api.TkOpened, 1, all(replyBreaches())},
		{"data of Cur, above Ceil", of(pkData, 4, 104, fromTo(1, 2, "hi")), api.TkDelivered, 1, all(dataBreaches(4))},
		{"data of Cur, below Ceil", of(pkData, 4, 37, fromTo(1, 2, "hi")), api.TkDelivered, 0, all(dataBreaches(4))},
		{"data of an older generation", of(pkData, 3, 104, fromTo(1, 2, "hi")), api.TkDelivered, 0, all(dataBreaches(3))},
	}
}

// wantBroken: a packet that does not meet some rules is dropped by the first of them, and then nothing has changed; nothing is committed.
func wantBroken(t *testing.T, b *both, a arrival, some ...breach) {
	t.Helper()
	x, first := a.good, some[0]
	what := a.what
	for _, one := range some {
		one.do(&x)
		what += ", " + one.what
		if one.rule < first.rule {
			first = one
		}
	}
	b.wantDrop(t, what, x.packet(), x.way, first.code)
}

// P19.4: each rule alone, in each of many ways, and then the packet itself, which is taken as if nothing had been.
func TestEachRuleAlone(t *testing.T) {
	for side := range 2 {
		for _, a := range arrivals(side) {
			b := lively(t, side)
			for _, one := range a.breaches {
				wantBroken(t, b, a, one)
			}
			b.wantTaken(t, a.what, a.good.packet(), a.good.way, a.kind, a.commits)
		}
	}
}

// P19.4: of each two that are not met the first one decides, however they are not.
func TestWhichOfTwoComesFirst(t *testing.T) {
	for side := range 2 {
		for _, a := range arrivals(side) {
			b, pairs := lively(t, side), map[[2]int]int{}
			for i, one := range a.breaches {
				for _, other := range a.breaches[i+1:] {
					if one.rule != other.rule {
						wantBroken(t, b, a, one, other)
						pairs[[2]int{min(one.rule, other.rule), max(one.rule, other.rule)}]++
					}
				}
			}
			rules := 5 // 1, 2, 3, 5, 6
			if a.good.kind == pkData {
				rules = 7
			}
			if len(pairs) != rules*(rules-1)/2 {
				t.Errorf("%s: only the pairs %v", a.what, pairs)
			}
			b.wantTaken(t, a.what, a.good.packet(), a.good.way, a.kind, a.commits)
		}
	}
}

// P19.4: of any that are not met the first one decides.
func TestWhichOfManyComesFirst(t *testing.T) {
	for _, a := range arrivals(0) {
		b, of := lively(t, 0), map[int]breach{}
		for _, one := range a.breaches {
			if _, ok := of[one.rule]; !ok {
				of[one.rule] = one
			}
		}
		for mask := 1; mask < 1<<8; mask++ {
			var some []breach
			for rule := range 8 {
				if one, ok := of[rule]; ok && mask>>rule&1 == 1 {
					some = append(some, one)
				}
			}
			if len(some) > 0 {
				wantBroken(t, b, a, some...)
			}
		}
		b.wantTaken(t, a.what, a.good.packet(), a.good.way, a.kind, a.commits)
	}
}

// P19.4: a rule that a type is not asked: inits and replies with any counter, taken ones too, and with any table; data of any stamp.
func TestRulesThatAreNotAsked(t *testing.T) {
	for _, c := range []uint64{0, 1, 36, 100, 103, 104, 1 << 63, maxCounter} {
		for _, w := range []way{home(), noWay(), noWay().to("0.0.0.0/0", 8)} {
			b := lively(t, 0)
			b.wantTaken(t, "an init", b.init(9, c, stampOf(3, 0)), w, api.TkAnswered, 1)
			b = lively(t, 1)
			b.wantTaken(t, "a reply", b.reply(5, c, stampOf(5, 0)), w, api.TkOpened, 1)
		}
	}
}

// P19.4: a packet with each bit turned is dropped and changes nothing; as the plain form says, by its form, its link, its generation, its counter or its seal.
func TestEachBitTurned(t *testing.T) {
	for side := range 2 {
		for _, a := range arrivals(side) {
			b, codes := lively(t, side), map[api.Errno]int{}
			for i := range a.good.packet() {
				for bit := range 8 {
					packet := a.good.packet()
					packet[i] ^= 1 << bit
					got := b.do(t, take(packet, a.good.way))
					codes[got.taken.Code]++
					if got.taken.Kind != api.TkDropped || len(got.commits) != 0 {
						t.Fatalf("%s with the byte %d turned: %+v", a.what, i, got)
					}
				}
			}
			for _, code := range []api.Errno{api.DropForm, api.DropPeer, api.DropGen, api.DropSeal} {
				if codes[code] == 0 {
					t.Errorf("%s: %v, and none of %d", a.what, codes, code)
				}
			}
			b.wantTaken(t, a.what, a.good.packet(), a.good.way, a.kind, a.commits)
		}
	}
}

// P19.4: a packet that is cut off anywhere, or longer by some bytes, is dropped.
func TestCutOff(t *testing.T) {
	for _, a := range arrivals(0) {
		b, packet := lively(t, 0), a.good.packet()
		for n := range packet {
			code := api.DropForm
			if a.good.kind == pkData && n >= 45 {
				code = api.DropSeal
			}
			b.wantDrop(t, a.what+", cut off", packet[:n], a.good.way, code)
			b.wantDrop(t, a.what+", its end", packet[len(packet)-n:], a.good.way, b.p.code(packet[len(packet)-n:], a.good.way))
		}
		for n := 1; n < 40; n++ {
			code := api.DropForm
			if a.good.kind == pkData {
				code = api.DropSeal
			}
			b.wantDrop(t, a.what+", longer", append(slices.Clone(packet), make([]byte, n)...), a.good.way, code)
		}
		b.wantTaken(t, a.what, packet, a.good.way, a.kind, a.commits)
	}
}

// P19.4: what one type carries is nothing for another: the head's type turned does not open.
func TestTypeTurned(t *testing.T) {
	b := lively(t, 0)
	for _, kind := range []int{pkInit, pkReply} {
		packet := b.from(kind, 6, 0, stampBytes(stampOf(5, 1)))
		packet[0] ^= 3
		b.wantDrop(t, "the other type", packet, home(), api.DropSeal)
	}
	long := b.from(pkData, 4, 104, fromTo(1, 2, "abc")) // 12 bytes of text: an init's length
	for _, x := range []struct {
		kind byte
		code api.Errno
	}{{pkInit, api.DropGen}, {pkReply, api.DropGen}} {
		packet := slices.Clone(long)
		packet[0] = x.kind
		b.wantDrop(t, "data as another type", packet, home(), x.code)
	}
	short := b.from(pkInit, 4, 104, stampBytes(stampOf(9, 0)))
	short[0] = pkData
	b.wantDrop(t, "an init as data", short, home(), api.DropSeal)
	stamp := b.from(pkData, 4, 104, stampBytes(stampOf(9, 0)))
	b.wantDrop(t, "data that carries a stamp", stamp, home(), api.DropPayload)
	b.wantTaken(t, "data", long, home(), api.TkDelivered, 1)
}
