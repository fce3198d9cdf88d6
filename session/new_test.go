package session_test

import (
	"math"
	"slices"
	"testing"

	"culvert/api"
	"culvert/session"
)

// someLane has fields that are unlike one another, and none of them zero.
func someLane() api.Lane {
	return api.Lane{Key: key(3), Side: 1, Cur: 3, Next: 5, SendCur: 100, Ceil: 40, Seen: stampOf(5, 7)}
}

func with(l api.Lane, change func(l *api.Lane)) api.Lane {
	l = cloned(l)
	change(&l)
	return l
}

func peerOf(link int, key []byte) api.Peer { return api.Peer{Link: link, Key: key} }

func wantNew(t *testing.T, what string, p api.Peer, l api.Lane, params api.Params, want bool) {
	t.Helper()
	s := session.New(p, l, params)
	if got := s != nil; got != want {
		t.Fatalf("%s: New(%+v, %+v, %+v) is a session: %v", what, p, l, params, got)
	}
	if want {
		wantView(t, what, s, api.View{At: l.SendCur, Floor: l.Ceil})
		wantLane(t, what, s, l)
	}
}

func edgeInts() []int {
	out := []int{math.MinInt, math.MinInt + 1, math.MaxInt - 1, math.MaxInt}
	for _, x := range []int{0, 1, 2, 64, 1024, maxBlock, maxGen, maxLink, 1 << 40} {
		for more := -2; more <= 2; more++ {
			out = append(out, x+more, -x-more)
		}
	}
	slices.Sort(out)
	return slices.Compact(out)
}

func edgeCounters() []uint64 {
	return []uint64{0, 1, 2, 63, 64, 65, 1<<32 - 1, 1 << 32, 1<<63 - 1, 1 << 63, maxCounter - 64, maxCounter - 63, maxCounter - 1, maxCounter, maxCounter + 1}
}

// noStamps are none, some of them beside one.
func noStamps() []api.Stamp {
	return []api.Stamp{{Sec: -1}, {Sec: -1, Nano: maxNano}, {Nano: -1}, {Nano: maxNano + 1}, {Sec: 5, Nano: -1}, {Sec: math.MinInt}, {Sec: maxSec, Nano: maxNano + 1}, {Sec: maxSec, Nano: math.MaxInt}, {Sec: 6, Nano: 1 << 32}, {Sec: maxSec, Nano: -1}}
}

// P19.1: a lane that may not be, by one of its fields and nothing else; beside each the nearest that may.
func TestNewLane(t *testing.T) {
	right := params(4, 64)
	for _, n := range []int{0, 1, 16, 31, 32, 33, 64, 288} {
		k := slices.Repeat([]byte{7}, n)
		wantNew(t, "the length of the key", peerOf(7, k), with(someLane(), func(l *api.Lane) { l.Key = k }), right, n == 32)
	}
	for _, x := range edgeInts() {
		is := func(what string, want bool, change func(l *api.Lane)) {
			t.Helper()
			l := with(someLane(), change)
			wantNew(t, what, peerOf(7, key(3)), l, right, want)
		}
		is("Side", x == 0 || x == 1, func(l *api.Lane) { l.Side = x })
		is("Cur", x >= 1 && x <= maxGen, func(l *api.Lane) { l.Cur = x })
		is("Next", x >= 0 && x <= maxGen, func(l *api.Lane) { l.Next = x })
		is("Seen.Sec", x >= 0, func(l *api.Lane) { l.Seen.Sec = x })
		is("Seen.Nano", x >= 0 && x <= maxNano, func(l *api.Lane) { l.Seen.Nano = x })
	}
	for _, s := range noStamps() {
		wantNew(t, "Seen", peerOf(7, key(3)), with(someLane(), func(l *api.Lane) { l.Seen = s }), right, false)
	}
	for _, s := range []api.Stamp{{}, {Nano: 1}, {Sec: maxSec, Nano: maxNano}, {Nano: maxNano}} {
		wantNew(t, "Seen", peerOf(7, key(3)), with(someLane(), func(l *api.Lane) { l.Seen = s }), right, true)
	}
}

// P19.1: SendCur and Ceil may be any numbers: At is the one, the floor the other, whatever the rest is.
func TestNewCounters(t *testing.T) {
	for _, sendCur := range edgeCounters() {
		for _, ceil := range edgeCounters() {
			for _, gens := range [][2]int{{1, 0}, {1, 1}, {2, 1}, {maxGen, 0}, {1, maxGen}, {maxGen, maxGen}} {
				l := with(someLane(), func(l *api.Lane) { l.Cur, l.Next, l.SendCur, l.Ceil = gens[0], gens[1], sendCur, ceil })
				wantNew(t, "counters", peerOf(7, key(3)), l, params(1, 64), true)
			}
		}
	}
}

// P19.1: links 1 to MaxLink, and no others.
func TestNewLink(t *testing.T) {
	for _, x := range append(edgeInts(), 1<<32+7, 1<<33, -1<<32+7) {
		wantNew(t, "the link", peerOf(x, key(3)), someLane(), params(4, 64), x >= 1 && x <= maxLink)
	}
	for _, x := range []int{1, 7, maxLink} { // a session of that very link
		b := newBothOf(t, x, newLane(0), params(4, 64))
		b.wantPacket(t, "data", b.do(t, send(fromTo(1, 2, ""))).packet, headOf(pkData, x, 1, 0), fromTo(1, 2, ""))
		b.wantPacket(t, "init", b.do(t, rekey(stampOf(1, 0))).packet, headOf(pkInit, x, 2, 0), stampBytes(stampOf(1, 0)))
		r := b.wantTaken(t, "init", b.init(3, 0, stampOf(1, 0)), home(), api.TkAnswered, 1)
		b.wantPacket(t, "reply", r.taken.Data, headOf(pkReply, x, 3, 0), stampBytes(stampOf(1, 0)))
	}
}

// P19.1: the peer's key must be the lane's, each byte of it.
func TestNewKey(t *testing.T) {
	l, right := someLane(), params(4, 64)
	wantNew(t, "the same key", peerOf(7, key(3)), l, right, true)
	for i := range 32 {
		for bit := range 8 {
			k := key(3)
			k[i] ^= 1 << bit
			wantNew(t, "another key", peerOf(7, k), l, right, false)
		}
	}
	for n := range 32 {
		wantNew(t, "its beginning", peerOf(7, key(3)[:n]), l, right, false)
	}
	for what, k := range map[string][]byte{"none": nil, "another one": key(4), "a byte more": append(key(3), 0), "twice": append(key(3), key(3)...)} {
		wantNew(t, what, peerOf(7, k), l, right, false)
	}
	zero := make([]byte, 32) // a key like others
	wantNew(t, "zeros", peerOf(7, zero), with(l, func(l *api.Lane) { l.Key = zero }), right, true)
	wantNew(t, "zeros and none", peerOf(7, nil), with(l, func(l *api.Lane) { l.Key = zero }), right, false)
}

// P19.1: Block 1 to MaxBlock, Width a multiple of 64 from 64 to 1024.
func TestNewParams(t *testing.T) {
	for _, x := range append(edgeInts(), 1<<32+4, -1<<32+4) {
		wantNew(t, "Block", peerOf(7, key(3)), someLane(), params(x, 64), x >= 1 && x <= maxBlock)
	}
	for x := -130; x <= 2200; x++ {
		wantNew(t, "Width", peerOf(7, key(3)), someLane(), params(4, x), x >= 64 && x <= 1024 && x%64 == 0)
	}
	for _, x := range append(edgeInts(), 1<<32+64, -1<<32+64, 65536+64) {
		wantNew(t, "Width", peerOf(7, key(3)), someLane(), params(4, x), x == 64 || x == 1024)
	}
}

// P19.1: prefixes are not looked at, whatever they are.
func TestNewPrefixes(t *testing.T) {
	ten := api.Prefix{Addr: api.Addr{Family: 4, Lo: 10 << 24}, Bits: 8}
	for _, l := range [][]api.Prefix{nil, {}, {ten}, {ten, ten}, {{}}, {{Bits: -1}, {Bits: 129}}, {{Addr: api.Addr{Family: 5}}}, slices.Repeat([]api.Prefix{ten}, 40)} {
		p := peerOf(7, key(3))
		p.Prefixes = l
		wantNew(t, "prefixes", p, someLane(), params(4, 64), true)
		p.Link = 0
		wantNew(t, "prefixes, and no link", p, someLane(), params(4, 64), false)
	}
}

// P19.1: a new session has no older windows, also if its lane has had generations; no openings, also if Next says that there were some; and its window has taken nothing above the floor.
func TestNewHasNothing(t *testing.T) {
	for side := range 2 {
		l := with(someLane(), func(l *api.Lane) { l.Side = side })
		b := newBoth(t, l, params(4, 64))
		for gen := 1; gen <= 2; gen++ {
			b.wantDrop(t, "an older generation", b.data(gen, 50), home(), api.DropGen)
		}
		for gen := 4; gen <= 6; gen++ {
			b.wantDrop(t, "no opening", b.reply(gen, 0, stampOf(1, 0)), home(), api.DropGen)
			b.wantDrop(t, "no opening, the zero stamp", b.reply(gen, 0, api.Stamp{}), home(), api.DropGen)
		}
		for _, c := range []uint64{0, 1, 38, 39} {
			b.wantDrop(t, "below the floor", b.data(3, c), home(), api.DropReplay)
		}
		for _, c := range []uint64{42, 40, 41} {
			b.wantTaken(t, "at the floor and above it", b.data(3, c), home(), api.TkDelivered, map[uint64]int{42: 1}[c])
		}
	}
}
