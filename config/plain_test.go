package config_test

import (
	"bytes"
	"encoding/binary"
	"fmt"
	"maps"
	"math"
	"math/rand/v2"
	"net/netip"
	"slices"
	"strings"

	"culvert/api"
)

// The chapter's words by other means: a configuration as maps, all faults of a change asked one by one whatever the others say, and the first of them looked up in the table's order.

const (
	maxLink = 4294967295
	maxGen  = 2147483647
)

// conf is a configuration, or lists that are none.
type conf struct {
	peers []api.Peer
	lanes []api.Lane
}

// key is 32 bytes, unlike for each number and in the order of the numbers.
func key(number int) []byte {
	b := binary.BigEndian.AppendUint32(nil, uint32(number))
	for i := range 28 {
		b = append(b, byte(number*5+7*i))
	}
	return b
}

// pre is a prefix as its text says it, be it one or not: bits behind its length stay.
func pre(text string) api.Prefix {
	p := netip.MustParsePrefix(text)
	b := p.Addr().AsSlice()
	if len(b) == 4 {
		return api.Prefix{Addr: api.Addr{Family: 4, Lo: uint64(binary.BigEndian.Uint32(b))}, Bits: p.Bits()}
	}
	return api.Prefix{Addr: api.Addr{Family: 6, Hi: binary.BigEndian.Uint64(b), Lo: binary.BigEndian.Uint64(b[8:])}, Bits: p.Bits()}
}

func pres(texts ...string) []api.Prefix {
	var out []api.Prefix
	for _, text := range texts {
		out = append(out, pre(text))
	}
	return out
}

// many are that many prefixes, each above the one ahead, unlike for each number.
func many(number, n int) []api.Prefix {
	var out []api.Prefix
	for i := range n {
		out = append(out, api.Prefix{Addr: api.Addr{Family: 4, Lo: uint64(number<<16 + i<<4)}, Bits: 28})
	}
	return out
}

func peer(link int, key []byte, l ...api.Prefix) api.Peer {
	return api.Peer{Link: link, Key: key, Prefixes: l}
}

// lane has all its other fields unlike for each key.
func lane(key []byte, side, cur, next int) api.Lane {
	x := binary.BigEndian.Uint32(key)
	return api.Lane{Key: key, Side: side, Cur: cur, Next: next, SendCur: 100 + uint64(x), Ceil: math.MaxUint64 - uint64(x), Seen: api.Stamp{Sec: 5 + int(x), Nano: 6 + int(x)}}
}

func add(link int, key []byte, side int) api.Change {
	return api.Change{Kind: 1, Link: link, Key: key, Side: side}
}

func remove(link int) api.Change { return api.Change{Kind: 2, Link: link} }

func setKey(link int, key []byte, side int) api.Change {
	return api.Change{Kind: 3, Link: link, Key: key, Side: side}
}

func allow(link int, p api.Prefix) api.Change { return api.Change{Kind: 4, Link: link, Prefix: p} }

func deny(link int, p api.Prefix) api.Change { return api.Change{Kind: 5, Link: link, Prefix: p} }

// prefixBytes are a prefix's, whose order is that of the prefixes; false, if it is none.
func prefixBytes(p api.Prefix) (string, bool) {
	var b []byte
	switch {
	case p.Addr.Family == 4 && p.Addr.Hi == 0 && p.Addr.Lo <= math.MaxUint32:
		b = binary.BigEndian.AppendUint32(nil, uint32(p.Addr.Lo))
	case p.Addr.Family == 6:
		b = binary.BigEndian.AppendUint64(binary.BigEndian.AppendUint64(nil, p.Addr.Hi), p.Addr.Lo)
	default:
		return "", false
	}
	addr, _ := netip.AddrFromSlice(b)
	whole, err := addr.Prefix(p.Bits)
	if err != nil || whole.Addr() != addr {
		return "", false
	}
	return string([]byte{byte(p.Addr.Family), byte(p.Bits)}) + string(b), true
}

// whyNone says by what lists are no configuration; nothing, if they are one.
func whyNone(c conf) string {
	laneKeys, keys, prefixes := map[string]int{}, map[string]int{}, map[api.Prefix]int{}
	if len(c.peers) > 16 || len(c.lanes) > 32 {
		return fmt.Sprintf("%d peers, %d lanes", len(c.peers), len(c.lanes))
	}
	for i, l := range c.lanes {
		switch {
		case len(l.Key) != 32 || l.Side != 0 && l.Side != 1 || l.Cur < 1 || l.Cur > maxGen || l.Next < 0 || l.Next > maxGen:
			return fmt.Sprintf("the lane %d is %v", i, l)
		case i > 0 && string(c.lanes[i-1].Key) >= string(l.Key):
			return fmt.Sprintf("the lane %d does not rise", i)
		}
		laneKeys[string(l.Key)]++
	}
	for i, p := range c.peers {
		keys[string(p.Key)]++
		switch {
		case p.Link < 1 || p.Link > maxLink || len(p.Key) != 32 || len(p.Prefixes) > 16:
			return fmt.Sprintf("the peer %d is %v", i, p)
		case i > 0 && c.peers[i-1].Link >= p.Link:
			return fmt.Sprintf("the peer %d does not rise", i)
		case keys[string(p.Key)] > 1:
			return fmt.Sprintf("the peer %d has another one's key", i)
		case laneKeys[string(p.Key)] == 0:
			return fmt.Sprintf("the peer %d has no lane", i)
		}
		last := ""
		for _, one := range p.Prefixes {
			b, ok := prefixBytes(one)
			prefixes[one]++
			if !ok || b <= last || prefixes[one] > 1 {
				return fmt.Sprintf("the peer %d has the prefix %v", i, one)
			}
			last = b
		}
	}
	return ""
}

// model is a configuration without any order.
type model struct {
	peers map[int]modelPeer
	lanes map[string]api.Lane
}

type modelPeer struct {
	key      string
	prefixes map[api.Prefix]bool
}

func modelOf(c conf) model {
	m := model{map[int]modelPeer{}, map[string]api.Lane{}}
	for _, p := range c.peers {
		l := map[api.Prefix]bool{}
		for _, one := range p.Prefixes {
			l[one] = true
		}
		m.peers[p.Link] = modelPeer{string(p.Key), l}
	}
	for _, l := range c.lanes {
		m.lanes[string(l.Key)] = l
	}
	return m
}

// conf are the model's lists, in their order.
func (m model) conf() conf {
	var c conf
	for _, link := range slices.Sorted(maps.Keys(m.peers)) {
		p := peer(link, []byte(m.peers[link].key), slices.Collect(maps.Keys(m.peers[link].prefixes))...)
		slices.SortFunc(p.Prefixes, func(a, b api.Prefix) int {
			x, _ := prefixBytes(a)
			y, _ := prefixBytes(b)
			return strings.Compare(x, y)
		})
		c.peers = append(c.peers, p)
	}
	for _, k := range slices.Sorted(maps.Keys(m.lanes)) {
		l := m.lanes[k]
		l.Key = []byte(k)
		c.lanes = append(c.lanes, l)
	}
	return c
}

// tableOrder is the chapter's table: the faults that a kind may have, the first of them first.
func tableOrder(kind int) []api.Errno {
	switch kind {
	case 1:
		return []api.Errno{160, 161, 162, 163, 164, 165, 166, 167, 174, 168}
	case 2:
		return []api.Errno{160, 161, 169}
	case 3:
		return []api.Errno{160, 161, 162, 163, 169, 165, 167, 174, 168}
	case 4:
		return []api.Errno{160, 161, 170, 169, 171, 172}
	case 5:
		return []api.Errno{160, 161, 170, 169, 173}
	}
	return []api.Errno{160}
}

// applies asks one fault of a change by itself, whatever other ones it has.
func (m model) applies(fault api.Errno, c api.Change) bool {
	p, hasPeer := m.peers[c.Link]
	l, hasLane := m.lanes[string(c.Key)]
	switch fault {
	case 160:
		return spare(c)
	case 161:
		return c.Link <= 0 || c.Link >= maxLink+1
	case 162:
		return len(c.Key) != 32
	case 163:
		return c.Side < 0 || c.Side > 1
	case 164:
		return hasPeer
	case 165:
		for link, q := range m.peers {
			if q.key == string(c.Key) && (c.Kind == 1 || link != c.Link) {
				return true
			}
		}
		return false
	case 166:
		return len(m.peers) == 16
	case 167:
		return !hasLane && len(m.lanes) == 32
	case 168:
		return hasLane && (l.Cur == maxGen || l.Next == maxGen)
	case 169:
		return !hasPeer
	case 170:
		_, ok := prefixBytes(c.Prefix)
		return !ok
	case 171:
		for _, q := range m.peers {
			if q.prefixes[c.Prefix] {
				return true
			}
		}
		return false
	case 172:
		return hasPeer && len(p.prefixes) == 16
	case 173:
		return hasPeer && !p.prefixes[c.Prefix]
	case 174:
		return hasLane && l.Side != c.Side
	}
	panic("no such fault")
}

// spare tells whether a change is of no kind, or says something in a field that its kind does not have.
func spare(c api.Change) bool {
	key, side, prefix := len(c.Key) != 0, c.Side != 0, c.Prefix.Bits != 0 || c.Prefix.Addr.Family != 0 || c.Prefix.Addr.Hi != 0 || c.Prefix.Addr.Lo != 0
	switch c.Kind {
	case 1, 3:
		return prefix
	case 2:
		return key || side || prefix
	case 4, 5:
		return key || side
	}
	return true
}

// faults are all that a change has, the first of the table first.
func (m model) faults(c api.Change) []api.Errno {
	var out []api.Errno
	for _, fault := range tableOrder(c.Kind) {
		if m.applies(fault, c) {
			out = append(out, fault)
		}
	}
	return out
}

// do does a change that has no fault.
func (m model) do(c api.Change) {
	switch c.Kind {
	case 1:
		m.peers[c.Link] = modelPeer{string(c.Key), map[api.Prefix]bool{}}
	case 2:
		delete(m.peers, c.Link)
	case 3:
		m.peers[c.Link] = modelPeer{string(c.Key), m.peers[c.Link].prefixes}
	case 4:
		m.peers[c.Link].prefixes[c.Prefix] = true
	case 5:
		delete(m.peers[c.Link].prefixes, c.Prefix)
	}
	if c.Kind != 1 && c.Kind != 3 {
		return
	}
	l, ok := m.lanes[string(c.Key)]
	if !ok {
		m.lanes[string(c.Key)] = api.Lane{Side: c.Side, Cur: 1}
		return
	}
	m.lanes[string(c.Key)] = api.Lane{Side: l.Side, Cur: 1 + max(l.Cur, l.Next), Next: l.Next, Seen: l.Seen}
}

func plainJudge(was conf, l []api.Change) (conf, int, api.Errno) {
	if len(l) < 1 || len(l) > 32 {
		return conf{}, 0, 160
	}
	m := modelOf(was)
	for i, c := range l {
		if faults := m.faults(c); len(faults) > 0 {
			return conf{}, i, faults[0]
		}
		m.do(c)
	}
	return m.conf(), 0, 0
}

// Configurations by which every fault can be brought about.

// small has a peer of each kind: with few prefixes, with the most, with none, the greatest link; and lanes without a peer. Keys 1 to 3 are peers', of them 3 has no generation left; 4 to 7 are lanes' alone: 6 and 7 have none left. The order of the links is not that of the keys.
func small() conf {
	return conf{
		peers: []api.Peer{
			peer(3, key(2), pres("10.0.0.0/8", "fd00::/8")...),
			peer(7, key(1), append(pres("10.1.0.0/16"), many(7, 15)...)...),
			peer(maxLink, key(3)),
		},
		lanes: []api.Lane{
			lane(key(1), 0, 5, 2), lane(key(2), 1, 1, 9), lane(key(3), 0, maxGen, 0), lane(key(4), 0, 8, 8),
			lane(key(5), 1, maxGen-1, 3), lane(key(6), 1, 4, maxGen), lane(key(7), 0, maxGen, maxGen),
		},
	}
}

// grown is small with more peers, each with a lane, and more lanes; the lists in order.
func grown(peers, lanes int) conf {
	c := small()
	for i := len(c.peers); i < peers; i++ {
		c.peers = append(c.peers, peer(100+i, key(200-i), many(100+i, i%5)...))
		c.lanes = append(c.lanes, lane(key(200-i), i%2, 1+i, i%3))
	}
	for i := len(c.lanes); i < lanes; i++ {
		c.lanes = append(c.lanes, lane(key(300+i), i%2, 1+i, i%4))
	}
	slices.SortFunc(c.peers, func(a, b api.Peer) int { return a.Link - b.Link })
	slices.SortFunc(c.lanes, func(a, b api.Lane) int { return bytes.Compare(a.Key, b.Key) })
	return c
}

type sampler struct{ *rand.Rand }

func newSampler(seed uint64) sampler { return sampler{rand.New(rand.NewPCG(seed, 16))} }

func pick[T any](s sampler, l []T) T { return l[s.IntN(len(l))] }

// gen is 1 to MaxGen, near the bounds more often than not.
func (s sampler) gen() int {
	return pick(s, []int{1 + s.IntN(4), 1 + s.IntN(maxGen), 1 + s.IntN(maxGen), maxGen - 1 - s.IntN(3), maxGen})
}

func (s sampler) prefix() api.Prefix {
	b := make([]byte, pick(s, []int{4, 16}))
	for i := range b {
		b[i] = byte(s.Uint32())
	}
	addr, _ := netip.AddrFromSlice(b)
	whole, _ := addr.Prefix(pick(s, []int{0, s.IntN(5), 8, 8 * len(b), s.IntN(8*len(b) + 1)}))
	return pre(whole.String())
}

// conf is a configuration of any size: a model gathers it, so that nothing stands twice.
func (s sampler) conf() conf {
	m := model{map[int]modelPeer{}, map[string]api.Lane{}}
	for range s.IntN(33) {
		l := lane(key(s.IntN(1<<30)), s.IntN(2), s.gen(), pick(s, []int{0, s.gen()}))
		m.lanes[string(l.Key)] = l
	}
	used := map[api.Prefix]bool{}
	for _, k := range slices.Sorted(maps.Keys(m.lanes)) {
		if len(m.peers) == 16 || s.IntN(3) == 0 {
			continue
		}
		p := modelPeer{k, map[api.Prefix]bool{}}
		for range pick(s, []int{0, s.IntN(4), s.IntN(17), 16}) {
			if one := s.prefix(); !used[one] {
				used[one], p.prefixes[one] = true, true
			}
		}
		m.peers[pick(s, []int{1 + s.IntN(40), 1 + s.IntN(maxLink), maxLink - s.IntN(3)})] = p
	}
	return m.conf()
}

// change is one that speaks of what there is more often than not.
func (s sampler) change(c conf) api.Change {
	links, keys, prefixes := []int{1 + s.IntN(40), 1 + s.IntN(maxLink)}, [][]byte{key(s.IntN(1 << 30))}, []api.Prefix{s.prefix(), s.prefix()}
	for _, p := range c.peers {
		links, prefixes = append(links, p.Link), append(prefixes, p.Prefixes...)
	}
	sides := map[string]int{}
	for _, l := range c.lanes {
		keys = append(keys, l.Key)
		sides[string(l.Key)] = l.Side
	}
	link, k := pick(s, links), pick(s, append(keys, key(s.IntN(1<<30))))
	side := sides[string(k)]
	if s.IntN(6) == 0 {
		side = 1 - side
	}
	return pick(s, []api.Change{add(pick(s, []int{1 + s.IntN(maxLink), link}), k, side), remove(link), setKey(link, k, side), allow(link, s.prefix()), allow(link, pick(s, prefixes)), deny(link, pick(s, prefixes))})
}
