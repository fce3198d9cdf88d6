package world_test

import (
	"math"
	"slices"
	"testing"

	"culvert/api"
	"culvert/world"
)

func wantShow(t *testing.T, e api.Event, want string) {
	t.Helper()
	if got := world.Show(e); got != want {
		t.Errorf("Show(%+v) = %q, want %q", e, got, want)
	}
}

// P23.7: each kind's line, said outright; what the kind does not name is not shown.
func TestShowKinds(t *testing.T) {
	t.Parallel()
	lines := []string{"", "refused 1 6", "done 1", "sent 1 5 2", "delivered 1 5 07ff", "dropped 1 6", "opened 1 5", "lost 1", "up 1 2", "down 1 2 3", "node 1 2 3",
		"peer 1 8 09", "lane 1 0a0b 11 12 13 14 15 16.000000017", "pending 1 2", "flight 18 19 20", ""}
	for kind, want := range lines {
		e := api.Event{Kind: kind, A: 1, K: 2, M: 3, Link: 5, Code: 6, Data: []byte{7, 255}, Peer: api.Peer{Link: 8, Key: []byte{9}},
			Lane: api.Lane{Key: []byte{10, 11}, Side: 11, Cur: 12, Next: 13, SendCur: 14, Ceil: 15, Seen: stampOf(16, 17)}, Flight: api.Flight{No: 18, To: 19, Data: []byte{0x20}}}
		wantShow(t, e, want)
		if got := world.Show(bare(e)); kind > 0 && kind < 15 && got != want {
			t.Errorf("Show looks at a field that the kind %d does not name: %q", kind, got)
		}
	}
}

// P23.7: no bytes, one, all; small digits.
func TestShowBytes(t *testing.T) {
	t.Parallel()
	wantShow(t, api.Event{Kind: api.EvDelivered, A: 0, Link: 7}, "delivered 0 7 -")
	wantShow(t, api.Event{Kind: api.EvDelivered, A: 0, Link: 7, Data: []byte{}}, "delivered 0 7 -")
	wantShow(t, api.Event{Kind: api.EvDelivered, Data: []byte{0}}, "delivered 0 0 00")
	wantShow(t, api.Event{Kind: api.EvFlight}, "flight 0 0 -")
	wantShow(t, api.Event{Kind: api.EvPeer}, "peer 0 0 -")
	wantShow(t, api.Event{Kind: api.EvLane}, "lane 0 - 0 0 0 0 0 0.000000000")
	all := make([]byte, 256)
	for i := range all {
		all[i] = byte(i)
	}
	for _, e := range []api.Event{{Kind: api.EvDelivered, Data: all}, {Kind: api.EvFlight, Flight: api.Flight{Data: all}}, {Kind: api.EvPeer, Peer: api.Peer{Key: all}}, {Kind: api.EvLane, Lane: api.Lane{Key: all}}} {
		wantShow(t, e, plainShow(e))
	}
	wantShow(t, api.Event{Kind: api.EvDelivered, Data: make([]byte, 1<<20)}, plainShow(api.Event{Kind: api.EvDelivered, Data: make([]byte, 1<<20)}))
}

func edgeInts() []int {
	return []int{math.MinInt, math.MinInt + 1, -1 << 32, -1 << 31, -256, -10, -1, 0, 1, 9, 10, 11, 99, 100, 255, 256, 1<<31 - 1, 1 << 31, 1<<32 - 1, 1 << 32, math.MaxInt - 1, math.MaxInt}
}

// P23.7: numbers below zero and at their ends, in each place where a line has one.
func TestShowNumbers(t *testing.T) {
	t.Parallel()
	wantShow(t, api.Event{Kind: api.EvSent, A: -1, Link: math.MaxInt, K: math.MinInt}, "sent -1 9223372036854775807 -9223372036854775808")
	wantShow(t, api.Event{Kind: api.EvRefused, A: math.MinInt, Code: math.MaxInt}, "refused -9223372036854775808 9223372036854775807")
	wantShow(t, api.Event{Kind: api.EvDropped, A: -1, Code: -210}, "dropped -1 -210")
	wantShow(t, api.Event{Kind: api.EvLane, A: -2, Lane: api.Lane{Side: -1, Cur: -3, Next: -4, SendCur: math.MaxUint64, Ceil: math.MaxUint64 - 1, Seen: stampOf(maxSec, maxNano)}},
		"lane -2 - -1 -3 -4 18446744073709551615 18446744073709551614 9223372036854775807.999999999")
	for _, n := range edgeInts() {
		for kind := 1; kind <= 14; kind++ {
			for _, e := range []api.Event{
				{Kind: kind, A: n}, {Kind: kind, K: n}, {Kind: kind, M: n}, {Kind: kind, Link: n}, {Kind: kind, Code: api.Errno(n)},
				{Kind: kind, Peer: api.Peer{Link: n}}, {Kind: kind, Flight: api.Flight{No: n}}, {Kind: kind, Flight: api.Flight{To: n}},
				{Kind: kind, Lane: api.Lane{Side: n}}, {Kind: kind, Lane: api.Lane{Cur: n}}, {Kind: kind, Lane: api.Lane{Next: n}},
				{Kind: kind, Lane: api.Lane{SendCur: uint64(n)}}, {Kind: kind, Lane: api.Lane{Ceil: uint64(n)}},
				{Kind: kind, Lane: api.Lane{Seen: stampOf(n, 0)}}, {Kind: kind, Lane: api.Lane{Seen: stampOf(0, n)}}, {Kind: kind, Lane: api.Lane{Seen: stampOf(n, n)}},
			} {
				wantShow(t, e, plainShow(e))
			}
		}
	}
}

// P23.7: kinds that are none have no line, whatever else there is.
func TestShowNoKind(t *testing.T) {
	t.Parallel()
	for _, kind := range edgeInts() {
		if kind >= 1 && kind <= 14 {
			continue
		}
		wantShow(t, api.Event{Kind: kind}, "")
		wantShow(t, api.Event{Kind: kind, A: 1, K: 2, Data: []byte{1}, Code: 3}, "")
	}
	for kind := 15; kind < 300; kind++ {
		wantShow(t, api.Event{Kind: kind}, "")
	}
}

// P23.7: a peer without prefixes, with one, with many, with both families; one that is not valid, at any place.
func TestShowPeer(t *testing.T) {
	t.Parallel()
	peer := func(l ...api.Prefix) api.Event {
		return api.Event{Kind: api.EvPeer, A: 1, Peer: api.Peer{Link: 7, Key: []byte{0xAB}, Prefixes: l}}
	}
	wantShow(t, peer(), "peer 1 7 ab")
	wantShow(t, peer(pre("10.1.0.0/16")), "peer 1 7 ab 10.1.0.0/16")
	wantShow(t, peer(pre("fd00::/8"), pre("0.0.0.0/0"), pre("255.255.255.255/32")), "peer 1 7 ab fd00:0000:0000:0000:0000:0000:0000:0000/8 0.0.0.0/0 255.255.255.255/32")
	var many []api.Prefix
	for i := range 100 {
		many = append(many, pre([]string{"10.1.2.0/24", "fd00:1:2:3:4:5:6:0/112", "::/0", "0.0.0.0/0"}[i%4]))
	}
	wantShow(t, peer(many...), plainShow(peer(many...)))
	for _, wrong := range []api.Prefix{{}, {Addr: api.Addr{Family: 5}}, {Addr: api.Addr{Family: 4, Lo: 1}, Bits: 31}, {Addr: api.Addr{Family: 4, Lo: 1 << 32}, Bits: 0}, {Addr: api.Addr{Family: 4, Hi: 1}, Bits: 32},
		{Addr: api.Addr{Family: 4}, Bits: 33}, {Addr: api.Addr{Family: 4}, Bits: -1}, {Addr: api.Addr{Family: 6}, Bits: 129}, {Addr: api.Addr{Family: 6, Lo: 1}, Bits: 127}} {
		for at := range 4 {
			wantShow(t, peer(slices.Insert(slices.Clone(many[:3]), at, wrong)...), "")
		}
		wantShow(t, peer(wrong), "")
		wantShow(t, api.Event{Kind: api.EvUp, A: 1, K: 2, Peer: api.Peer{Prefixes: []api.Prefix{wrong}}}, "up 1 2")
	}
}

// P23.7: a Seen that is no stamp leaves no line; of other kinds it is not asked.
func TestShowLane(t *testing.T) {
	t.Parallel()
	for _, seen := range []api.Stamp{stampOf(-1, 0), stampOf(0, -1), stampOf(0, maxNano+1), stampOf(maxSec, maxNano+1), stampOf(math.MinInt, 5), stampOf(7, math.MaxInt)} {
		wantShow(t, api.Event{Kind: api.EvLane, Lane: api.Lane{Cur: 1, Seen: seen}}, "")
		wantShow(t, api.Event{Kind: api.EvLost, A: 1, Lane: api.Lane{Seen: seen}}, "lost 1")
	}
	wantShow(t, api.Event{Kind: api.EvLane, A: 1, Lane: api.Lane{Key: key(1), Side: 1, Cur: 2, Next: 3, SendCur: 4, Ceil: 5, Seen: stampOf(6, 7)}},
		"lane 1 "+spelt("K1")[:64]+" 1 2 3 4 5 6.000000007")
}

// P23.7: any events, against the plain form.
func TestShowAny(t *testing.T) {
	t.Parallel()
	s := newSampler(7)
	shown := 0
	for range 20000 {
		e := api.Event{Kind: s.IntN(17) - 1, A: s.odd(), K: s.odd(), M: s.odd(), Link: s.odd(), Code: api.Errno(s.odd()), Data: s.list(s.IntN(5))}
		e.Peer = api.Peer{Link: s.odd(), Key: s.list(s.IntN(40))}
		for range s.IntN(4) {
			e.Peer.Prefixes = append(e.Peer.Prefixes, pre(s.prefix(s.IntN(2))))
			if s.once(12) {
				e.Peer.Prefixes[0].Bits += s.IntN(9) - 4
			}
		}
		e.Lane = api.Lane{Key: s.list(s.IntN(40)), Side: s.odd(), Cur: s.odd(), Next: s.odd(), SendCur: s.Uint64(), Ceil: s.Uint64(), Seen: stampOf(s.IntN(1000), s.IntN(maxNano+1))}
		if s.once(6) {
			e.Lane.Seen = stampOf(s.odd(), s.odd())
		}
		e.Flight = api.Flight{No: s.odd(), To: s.odd(), Data: s.list(s.IntN(5))}
		if want := plainShow(e); want != "" {
			shown++
		}
		wantShow(t, e, plainShow(e))
	}
	if shown < 10000 {
		t.Errorf("only %d were shown", shown)
	}
}

// P23.2, P23.7: every event of a world has a line, which begins with its kind's name.
func TestShowOfSteps(t *testing.T) {
	t.Parallel()
	for seed := range 10 {
		s := newSampler(uint64(300 + seed))
		x := newBoth(t, s.sectors())
		for _, op := range s.first(t) {
			x.do(op)
		}
		for range 60 {
			for _, e := range x.do(s.op(x.p)) {
				if got := world.Show(e); got == "" || got != plainShow(e) {
					x.fail("%q, want %q", got, plainShow(e))
				}
			}
		}
	}
}
