package rows_test

import (
	"bytes"
	"encoding/binary"
	"math"
	"math/rand/v2"
	"net/netip"
	"slices"
	"strings"

	"culvert/api"
)

// The chapter's words by other means: what may be is asked field by field, rows are laid down and taken apart at fixed places, and states are held against one another by looking each row up in a list.

const (
	maxLink  = 4294967295
	maxGen   = 2147483647
	maxBoots = 1 << 62
	maxSec   = math.MaxInt64
	maxNano  = 999999999
)

// key is 32 bytes, unlike for each number and in the order of the numbers.
func key(number int) []byte {
	b := binary.BigEndian.AppendUint32(nil, uint32(number))
	return append(b, counted(number*5+1, 28)...)
}

// counted are bytes of all kinds, unlike for each of 256 seeds.
func counted(seed, n int) []byte {
	b := make([]byte, n)
	for i := range b {
		b[i] = byte(seed + 7*i)
	}
	return b
}

// pre is a prefix as its text says it, be it one or not: bits behind its length stay.
func pre(text string) api.Prefix {
	p := netip.MustParsePrefix(text)
	b := p.Addr().AsSlice()
	if len(b) == 4 {
		return api.Prefix{Addr: api.Addr{Family: 4, Lo: uint64(binary.BigEndian.Uint32(b))}, Bits: p.Bits()}
	}
	return api.Prefix{Addr: api.Addr{Family: 6, Hi: binary.BigEndian.Uint64(b), Lo: binary.BigEndian.Uint64(b[8:])}, Bits: p.Bits()}
}

func pres(texts ...string) []api.Prefix {
	var out []api.Prefix
	for _, text := range texts {
		out = append(out, pre(text))
	}
	return out
}

// rising4 and rising6 are that many prefixes, each above the one ahead, unlike for each number.
func rising4(number, n int) []api.Prefix {
	var out []api.Prefix
	for i := range n {
		out = append(out, api.Prefix{Addr: api.Addr{Family: 4, Lo: uint64(number<<16 + i<<4)}, Bits: 28})
	}
	return out
}

func rising6(number, n int) []api.Prefix {
	var out []api.Prefix
	for i := range n {
		out = append(out, api.Prefix{Addr: api.Addr{Family: 6, Hi: uint64(number), Lo: uint64(i)<<60 | 7}, Bits: 128})
	}
	return out
}

func peer(link int, key []byte, l ...api.Prefix) api.Peer {
	return api.Peer{Link: link, Key: key, Prefixes: l}
}

// lane is one that may be, all of its fields unlike for each number.
func lane(key []byte, number int) api.Lane {
	return api.Lane{Key: key, Side: number % 2, Cur: number + 1, Next: number, SendCur: uint64(3 * number), Ceil: uint64(number) << 40, Seen: api.Stamp{Sec: number, Nano: number + 2}}
}

func within(x, least, most int) bool { return x >= least && x <= most }

// prefixBytes are a prefix's; false, if it is none.
func prefixBytes(p api.Prefix) ([]byte, bool) {
	var b []byte
	switch {
	case p.Addr.Family == 4 && p.Addr.Hi == 0 && p.Addr.Lo <= math.MaxUint32:
		b = binary.BigEndian.AppendUint32(nil, uint32(p.Addr.Lo))
	case p.Addr.Family == 6:
		b = binary.BigEndian.AppendUint64(binary.BigEndian.AppendUint64(nil, p.Addr.Hi), p.Addr.Lo)
	default:
		return nil, false
	}
	addr, _ := netip.AddrFromSlice(b)
	whole, err := addr.Prefix(p.Bits)
	if err != nil || whole.Addr() != addr {
		return nil, false
	}
	return slices.Concat([]byte{byte(p.Addr.Family), byte(p.Bits)}, b), true
}

func peerRow(link uint32, key []byte, count byte, rest ...[]byte) api.Row {
	return api.Row{
		Key:   binary.BigEndian.AppendUint32([]byte{0x50}, link),
		Value: slices.Concat(key, []byte{count}, slices.Concat(rest...)),
	}
}

func laneRow(key []byte, side byte, cur, next uint32, sendCur, ceil, sec uint64, nano uint32) api.Row {
	b := binary.BigEndian.AppendUint32([]byte{side}, cur)
	b = binary.BigEndian.AppendUint32(b, next)
	b = binary.BigEndian.AppendUint64(b, sendCur)
	b = binary.BigEndian.AppendUint64(b, ceil)
	b = binary.BigEndian.AppendUint64(b, sec)
	b = binary.BigEndian.AppendUint32(b, nano)
	return api.Row{Key: slices.Concat([]byte{0x4C}, key), Value: b}
}

func bootsRow(n uint64) api.Row {
	return api.Row{Key: []byte{0x42}, Value: binary.BigEndian.AppendUint64(nil, n)}
}

func plainPutPeer(p api.Peer) (api.Row, bool) {
	if !within(p.Link, 1, maxLink) || len(p.Key) != 32 || len(p.Prefixes) > 16 {
		return api.Row{}, false
	}
	var all [][]byte
	for _, one := range p.Prefixes {
		b, ok := prefixBytes(one)
		if !ok || len(all) > 0 && bytes.Compare(all[len(all)-1], b) >= 0 {
			return api.Row{}, false
		}
		all = append(all, b)
	}
	return peerRow(uint32(p.Link), p.Key, byte(len(all)), all...), true
}

func plainPutLane(l api.Lane) (api.Row, bool) {
	if len(l.Key) != 32 || !within(l.Side, 0, 1) || !within(l.Cur, 1, maxGen) || !within(l.Next, 0, maxGen) {
		return api.Row{}, false
	}
	if !within(l.Seen.Sec, 0, maxSec) || !within(l.Seen.Nano, 0, maxNano) {
		return api.Row{}, false
	}
	return laneRow(l.Key, byte(l.Side), uint32(l.Cur), uint32(l.Next), l.SendCur, l.Ceil, uint64(l.Seen.Sec), uint32(l.Seen.Nano)), true
}

func plainPutBoots(n int) (api.Row, bool) {
	if !within(n, 0, maxBoots) {
		return api.Row{}, false
	}
	return bootsRow(uint64(n)), true
}

// cutPrefix takes a prefix's bytes off the beginning of a list; what they say may be no prefix.
func cutPrefix(b []byte) (p api.Prefix, rest []byte, ok bool) {
	switch {
	case len(b) >= 6 && b[0] == 4:
		p.Addr.Lo = uint64(binary.BigEndian.Uint32(b[2:]))
		rest = b[6:]
	case len(b) >= 18 && b[0] == 6:
		p.Addr.Hi, p.Addr.Lo = binary.BigEndian.Uint64(b[2:]), binary.BigEndian.Uint64(b[10:])
		rest = b[18:]
	default:
		return api.Prefix{}, nil, false
	}
	p.Addr.Family, p.Bits = int(b[0]), int(b[1])
	return p, rest, true
}

func plainGetPeer(r api.Row) (api.Peer, bool) {
	if len(r.Key) != 5 || r.Key[0] != 'P' || len(r.Value) < 33 {
		return api.Peer{}, false
	}
	p := api.Peer{Link: int(binary.BigEndian.Uint32(r.Key[1:])), Key: bytes.Clone(r.Value[:32])}
	rest := r.Value[33:]
	for range r.Value[32] {
		one, behind, ok := cutPrefix(rest)
		if !ok {
			return api.Peer{}, false
		}
		p.Prefixes, rest = append(p.Prefixes, one), behind
	}
	if _, ok := plainPutPeer(p); !ok || len(rest) > 0 {
		return api.Peer{}, false
	}
	return p, true
}

func plainGetLane(r api.Row) (api.Lane, bool) {
	if len(r.Key) != 33 || r.Key[0] != 'L' || len(r.Value) != 37 {
		return api.Lane{}, false
	}
	four := func(at int) int { return int(binary.BigEndian.Uint32(r.Value[at:])) }
	eight := func(at int) uint64 { return binary.BigEndian.Uint64(r.Value[at:]) }
	l := api.Lane{Key: bytes.Clone(r.Key[1:]), Side: int(r.Value[0]), Cur: four(1), Next: four(5), SendCur: eight(9), Ceil: eight(17), Seen: api.Stamp{Sec: int(eight(25)), Nano: four(33)}}
	if _, ok := plainPutLane(l); !ok || eight(25) > maxSec {
		return api.Lane{}, false
	}
	return l, true
}

func plainGetBoots(r api.Row) (int, bool) {
	if string(r.Key) != "B" || len(r.Value) != 8 {
		return 0, false
	}
	n := binary.BigEndian.Uint64(r.Value)
	if n > maxBoots {
		return 0, false
	}
	return int(n), true
}

// state is what State answers beside the error.
type state struct {
	peers []api.Peer
	lanes []api.Lane
	boots int
}

// rows are the state's, in no order that anybody could count on.
func (s state) rows() []api.Row {
	var out []api.Row
	for _, p := range s.peers {
		r, _ := plainPutPeer(p)
		out = append(out, r)
	}
	if s.boots != 0 {
		out = append(out, bootsRow(uint64(s.boots)))
	}
	for _, l := range s.lanes {
		r, _ := plainPutLane(l)
		out = append(out, r)
	}
	return out
}

func plainState(l []api.Row) (state, bool) {
	var s state
	for i, r := range l {
		for _, q := range l[:i] {
			if bytes.Equal(q.Key, r.Key) {
				return state{}, false
			}
		}
		p, isPeer := plainGetPeer(r)
		lane, isLane := plainGetLane(r)
		n, isBoots := plainGetBoots(r)
		switch {
		case isPeer:
			s.peers = append(s.peers, p)
		case isLane:
			s.lanes = append(s.lanes, lane)
		case isBoots:
			s.boots = n
		default:
			return state{}, false
		}
	}
	if !s.mayBe() {
		return state{}, false
	}
	slices.SortFunc(s.peers, func(a, b api.Peer) int { return a.Link - b.Link })
	slices.SortFunc(s.lanes, func(a, b api.Lane) int { return strings.Compare(string(a.Key), string(b.Key)) })
	return s, true
}

// mayBe asks what holds over all rows of a state.
func (s state) mayBe() bool {
	keys, laneKeys, prefixes := map[string]int{}, map[string]int{}, map[api.Prefix]int{}
	for _, l := range s.lanes {
		laneKeys[string(l.Key)]++
	}
	for _, p := range s.peers {
		keys[string(p.Key)]++
		if keys[string(p.Key)] > 1 || laneKeys[string(p.Key)] == 0 {
			return false
		}
		for _, one := range p.Prefixes {
			if prefixes[one]++; prefixes[one] > 1 {
				return false
			}
		}
	}
	return len(s.peers) <= 16 && len(s.lanes) <= 32
}

// textRow is a row as texts, so that rows can be held against one another.
type textRow struct{ key, value string }

// plainRows are the rows of peers and lanes, keys rising; false, if one may not be or two have one key.
func plainRows(peers []api.Peer, lanes []api.Lane) ([]textRow, bool) {
	var out []textRow
	right := true
	add := func(r api.Row, ok bool) {
		right = right && ok && !slices.ContainsFunc(out, func(x textRow) bool { return x.key == string(r.Key) })
		out = append(out, textRow{string(r.Key), string(r.Value)})
	}
	for _, p := range peers {
		add(plainPutPeer(p))
	}
	for _, l := range lanes {
		add(plainPutLane(l))
	}
	slices.SortFunc(out, func(a, b textRow) int { return strings.Compare(a.key, b.key) })
	return out, right
}

func plainSets(peers, newPeers []api.Peer, lanes, newLanes []api.Lane) ([]api.Set, bool) {
	was, ok := plainRows(peers, lanes)
	is, newOK := plainRows(newPeers, newLanes)
	if !ok || !newOK {
		return nil, false
	}
	var out []api.Set
	for _, r := range is {
		if !slices.Contains(was, r) {
			out = append(out, api.Set{Key: []byte(r.key), Value: []byte(r.value)})
		}
	}
	for _, r := range was {
		if !slices.ContainsFunc(is, func(x textRow) bool { return x.key == r.key }) {
			out = append(out, api.Set{Key: []byte(r.key), Gone: true})
		}
	}
	slices.SortFunc(out, func(a, b api.Set) int { return strings.Compare(string(a.Key), string(b.Key)) })
	return out, true
}

// somePeers may be: no prefixes, one, several, the most; of one family and of both; each bound of the link.
func somePeers() []api.Peer {
	return []api.Peer{
		peer(1, key(1)),
		peer(maxLink, bytes.Repeat([]byte{0xFF}, 32)),
		peer(0x01020304, make([]byte, 32), pre("0.0.0.0/0")),
		peer(256, key(2), pre("::/0")),
		peer(2, key(3), pres("10.0.0.0/8", "11.0.0.0/8", "10.1.0.0/16", "255.255.255.255/32")...),
		peer(1<<31, key(4), pres("10.0.0.0/8", "fd00::/8", "fd00::1/128", "ffff:ffff:ffff:ffff:ffff:ffff:ffff:ffff/128")...),
		peer(7, key(5), rising4(1, 16)...),
		peer(8, key(6), rising6(1, 16)...),
		peer(9, key(7), append(rising4(2, 8), rising6(2, 8)...)...),
		peer(65536, key(8), append(rising4(3, 1), rising6(3, 14)...)...),
	}
}

// someLanes may be: each number at its bounds and between.
func someLanes() []api.Lane {
	return []api.Lane{
		{Key: make([]byte, 32), Cur: 1},
		{Key: key(1), Side: 1, Cur: 1, Ceil: 1000, Seen: api.Stamp{Sec: 5, Nano: 6}},
		{Key: bytes.Repeat([]byte{0xFF}, 32), Side: 1, Cur: maxGen, Next: maxGen, SendCur: math.MaxUint64, Ceil: math.MaxUint64, Seen: api.Stamp{Sec: maxSec, Nano: maxNano}},
		{Key: key(2), Cur: 0x01020304, Next: 0x05060708, SendCur: 0x090A0B0C0D0E0F10, Ceil: 0x1112131415161718, Seen: api.Stamp{Sec: 0x191A1B1C1D1E1F20, Nano: 0x21222324}},
		lane(key(3), 4),
		lane(key(4), 100000),
	}
}

func someBoots() []int { return []int{0, 1, 258, 0x0102030405060708, maxBoots - 1, maxBoots} }

// someRows are right, of all three kinds.
func someRows() []api.Row {
	var out []api.Row
	for _, p := range somePeers() {
		r, _ := plainPutPeer(p)
		out = append(out, r)
	}
	for _, l := range someLanes() {
		r, _ := plainPutLane(l)
		out = append(out, r)
	}
	for _, n := range someBoots() {
		out = append(out, bootsRow(uint64(n)))
	}
	return out
}

// full is a state of as many peers and lanes as there may be: that many peers, each with its lane, and lanes more; the order of the links is not that of the keys, and the lists are in order.
func full(peers, lanes int) state {
	s := state{boots: 77}
	for i := range peers {
		s.peers = append(s.peers, peer(1+i*70000, key(1000-i), rising4(i, (i+1)%17)...))
	}
	for i := range lanes {
		s.lanes = append(s.lanes, lane(key(1000-lanes+1+i), i))
	}
	return s
}

type sampler struct{ *rand.Rand }

func newSampler(seed uint64) sampler { return sampler{rand.New(rand.NewPCG(seed, 15))} }

func pick[T any](s sampler, l []T) T { return l[s.IntN(len(l))] }

func shuffled[T any](s sampler, l []T) []T {
	out := slices.Clone(l)
	s.Shuffle(len(out), func(i, j int) { out[i], out[j] = out[j], out[i] })
	return out
}

// number is 0 to most, near the bounds more often than not.
func (s sampler) number(most int) int {
	switch s.IntN(4) {
	case 0:
		return s.IntN(3)
	case 1:
		return most - s.IntN(3)
	}
	return s.IntN(most)
}

// prefix is one, of any length.
func (s sampler) prefix() api.Prefix {
	b := make([]byte, pick(s, []int{4, 16}))
	for i := range b {
		b[i] = byte(s.Uint32())
	}
	addr, _ := netip.AddrFromSlice(b)
	whole, _ := addr.Prefix(s.number(8 * len(b)))
	return pre(whole.String())
}

func (s sampler) prefixes() []api.Prefix {
	var out []api.Prefix
	for range s.number(16) {
		out = append(out, s.prefix())
	}
	order := func(a, b api.Prefix) int {
		x, _ := prefixBytes(a)
		y, _ := prefixBytes(b)
		return bytes.Compare(x, y)
	}
	slices.SortFunc(out, order)
	return slices.Compact(out)
}

// peer may be.
func (s sampler) peer() api.Peer {
	return peer(1+s.number(maxLink-1), key(s.IntN(1<<30)), s.prefixes()...)
}

// lane may be.
func (s sampler) lane() api.Lane {
	return api.Lane{
		Key: key(s.IntN(1 << 30)), Side: s.IntN(2), Cur: 1 + s.number(maxGen-1), Next: s.number(maxGen),
		SendCur: pick(s, []uint64{0, 1, s.Uint64(), math.MaxUint64}), Ceil: pick(s, []uint64{0, 1, s.Uint64(), math.MaxUint64}),
		Seen: api.Stamp{Sec: s.number(maxSec), Nano: s.number(maxNano)},
	}
}
