package config_test

import (
	"math"
	"slices"
	"testing"

	"culvert/api"
)

// What is no configuration: just that the call ends and does not panic.

// oddConfs are lists that are none, each by something else.
func oddConfs() map[string]conf {
	with := func(twist func(c *conf)) conf {
		c := small()
		twist(&c)
		return c
	}
	return map[string]conf{
		"peers that fall":           with(func(c *conf) { slices.Reverse(c.peers) }),
		"lanes that fall":           with(func(c *conf) { slices.Reverse(c.lanes) }),
		"prefixes that fall":        with(func(c *conf) { slices.Reverse(c.peers[1].Prefixes) }),
		"peers twice":               with(func(c *conf) { c.peers = slices.Concat(c.peers, c.peers, c.peers) }),
		"lanes twice":               with(func(c *conf) { c.lanes = slices.Concat(c.lanes, c.lanes, c.lanes, c.lanes, c.lanes, c.lanes) }),
		"a prefix twice":            with(func(c *conf) { c.peers[0].Prefixes = pres("10.0.0.0/8", "10.0.0.0/8", "10.0.0.0/8") }),
		"two peers with one prefix": with(func(c *conf) { c.peers[0].Prefixes = c.peers[1].Prefixes }),
		"too many prefixes":         with(func(c *conf) { c.peers[0].Prefixes = many(1, 40) }),
		"prefixes that are none": with(func(c *conf) {
			c.peers[0].Prefixes = []api.Prefix{{}, {Bits: -1}, {Addr: api.Addr{Family: 4}, Bits: 99}}
		}),
		"two peers with one key":    with(func(c *conf) { c.peers[0].Key = key(1) }),
		"two peers with one link":   with(func(c *conf) { c.peers[1].Link = 3 }),
		"links out of bounds":       with(func(c *conf) { c.peers[0].Link, c.peers[1].Link = math.MinInt, 0 }),
		"links at the end of all":   with(func(c *conf) { c.peers[0].Link, c.peers[1].Link = math.MaxInt, maxLink+1 }),
		"peers without keys":        with(func(c *conf) { c.peers[0].Key, c.peers[1].Key = nil, []byte{1} }),
		"lanes without keys":        with(func(c *conf) { c.lanes[0].Key, c.lanes[1].Key, c.lanes[2].Key = nil, []byte{1}, make([]byte, 99) }),
		"no lanes":                  with(func(c *conf) { c.lanes = nil }),
		"zero peers and lanes":      {make([]api.Peer, 3), make([]api.Lane, 3)},
		"many zero peers and lanes": {make([]api.Peer, 300), make([]api.Lane, 300)},
		"sides and generations, greater": with(func(c *conf) {
			for i := range c.lanes {
				c.lanes[i].Side, c.lanes[i].Cur, c.lanes[i].Next = math.MaxInt, math.MaxInt, math.MaxInt
			}
		}),
		"generations beyond the last": with(func(c *conf) {
			for i := range c.lanes {
				c.lanes[i].Cur, c.lanes[i].Next = maxGen+1+i, math.MaxInt-i
			}
		}),
		"sides and generations, lesser": with(func(c *conf) {
			for i := range c.lanes {
				c.lanes[i].Side, c.lanes[i].Cur, c.lanes[i].Next = math.MinInt, math.MinInt, math.MinInt
			}
		}),
		"generations 0": with(func(c *conf) {
			for i := range c.lanes {
				c.lanes[i].Cur, c.lanes[i].Next = 0, -i
			}
		}),
		"very many": func() conf {
			var c conf
			for i := range 20000 {
				c.peers = append(c.peers, peer(i%7000, key(i%900), many(i%5, i%20)...))
				c.lanes = append(c.lanes, lane(key(i%901), i%2, 1+i%3, i%4))
			}
			return c
		}(),
	}
}

// P0.1, Words: all changes of oddConfs, in lists of one and of many.
func TestOddLists(t *testing.T) {
	links := []int{math.MinInt, -1, 0, 1, 3, 7, maxLink, maxLink + 1, math.MaxInt}
	keys := [][]byte{nil, {1}, make([]byte, 32), make([]byte, 99), key(1), key(2), key(4), key(50)}
	prefixes := append(pres("10.0.0.0/8", "10.1.0.0/16", "11.0.0.0/8"), api.Prefix{}, api.Prefix{Bits: -1})
	var all []api.Change
	for _, link := range links {
		all = append(all, remove(link))
		for _, k := range keys {
			for side := range 2 {
				all = append(all, add(link, k, side), setKey(link, k, side))
			}
		}
		for _, p := range prefixes {
			all = append(all, allow(link, p), deny(link, p))
		}
	}
	for what, was := range oddConfs() {
		if whyNone(was) == "" {
			t.Errorf("%s: it is a configuration", what)
		}
		tried := all
		if len(was.peers) > 1000 {
			tried = all[len(all)/2 : len(all)/2+60]
		}
		for _, c := range tried {
			judge(was, c)
		}
		judge(was, slices.Repeat([]api.Change{setKey(3, key(4), 0)}, 32)...)
		judge(was, slices.Repeat([]api.Change{deny(3, pre("10.0.0.0/8")), allow(3, pre("10.0.0.0/8"))}, 16)...)
		judge(was, slices.Repeat([]api.Change{remove(3), add(3, key(2), 1)}, 16)...)
		judge(was)
	}
}

// P0.1: any lists, drawn without any rule, and changes drawn of them.
func TestAnyOddLists(t *testing.T) {
	s := newSampler(4)
	number := func() int {
		return pick(s, []int{math.MinInt, -1, 0, 1, 2, 3, maxGen - 1, maxGen, maxGen + 1, maxLink, maxLink + 1, math.MaxInt})
	}
	keyOf := func() []byte { return key(s.IntN(6))[:pick(s, []int{0, 1, 31, 32, 32, 32})] }
	prefixOf := func() api.Prefix {
		return pick(s, []api.Prefix{{}, {Bits: number()}, pre("10.0.0.0/8"), pre("::/0"), pre("10.0.0.1/8"), s.prefix()})
	}
	for range 4000 {
		var was conf
		for range s.IntN(20) {
			p := peer(number(), keyOf())
			for range s.IntN(20) {
				p.Prefixes = append(p.Prefixes, prefixOf())
			}
			was.peers = append(was.peers, p)
		}
		for range s.IntN(36) {
			was.lanes = append(was.lanes, api.Lane{Key: keyOf(), Side: number(), Cur: number(), Next: number()})
		}
		var l []api.Change
		for range s.IntN(34) {
			l = append(l, pick(s, []api.Change{add(number(), keyOf(), s.IntN(2)), remove(number()), setKey(number(), keyOf(), s.IntN(2)), allow(number(), prefixOf()), deny(number(), prefixOf()), {Kind: number()}}))
		}
		for i := range l {
			judge(was, l[i:]...)
		}
	}
}
