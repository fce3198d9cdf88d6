package node_test

import (
	"fmt"
	"math/rand/v2"
	"slices"
	"testing"

	"culvert/api"
	"culvert/disk"
)

// sampler makes things that are the same at every run. It knows few links and keys, so that they meet again.
type sampler struct {
	*rand.Rand
	links []int
	keys  int
}

func newSampler(seed uint64) sampler {
	return sampler{rand.New(rand.NewPCG(seed, 20)), []int{1, 2, 3, 7, 9}, 6}
}

func pick[T any](s sampler, l ...T) T { return l[s.IntN(len(l))] }

func (s sampler) list(n int) []byte {
	b := make([]byte, n)
	for i := range b {
		b[i] = byte(s.Uint32())
	}
	return b
}

func (s sampler) link() int { return pick(s, s.links...) }

func (s sampler) key() []byte { return key(1 + s.IntN(s.keys)) }

// prefixTexts are few, so that they meet again; some are within others.
func prefixTexts() []string {
	return []string{"10.0.0.0/8", "10.1.0.0/16", "10.1.2.0/24", "10.1.2.3/32", "0.0.0.0/0", "11.0.0.0/8", "fd00::/8", "fd00:1::/32", "::/0"}
}

func (s sampler) address(four bool) string {
	if four {
		return pick(s, "10.0.0.1", "10.1.0.1", "10.1.2.1", "10.1.2.3", "11.0.0.1", "12.0.0.1", "0.0.0.0")
	}
	return pick(s, "fd00::1", "fd00:1::1", "fc00::1", "::")
}

func (s sampler) payload() []byte {
	switch s.IntN(20) {
	case 0:
		return s.list(s.IntN(40))
	case 1:
		return pick(s, noPayloads()...)
	}
	four := s.IntN(3) > 0
	return pay(s.address(four), s.address(four), string(s.list(s.IntN(6))))
}

func (s sampler) params() api.Params {
	return params(pick(s, 1, 1, 2, 3, 4, 7, 40, maxBlock), pick(s, 64, 64, 128, 1024))
}

func (s sampler) stamp() api.Stamp {
	switch s.IntN(12) {
	case 0:
		return pick(s, noStamps()...)
	case 1, 2, 3:
		return pick(s, greatest(), stampOf(maxSec, maxNano-1))
	}
	return stampOf(s.IntN(6), s.IntN(3))
}

// lane may be so: new ones, some at the ends.
func (s sampler) lane(key []byte) api.Lane {
	l := newLane(key, s.IntN(2))
	switch s.IntN(8) {
	case 0:
		l.Cur, l.Next = maxGen-s.IntN(3), maxGen-s.IntN(3)
	case 1:
		l.SendCur, l.Ceil = maxCounter+1-uint64(s.IntN(6)), maxCounter+1-uint64(s.IntN(6))
	case 2:
		l.Cur, l.Next, l.Seen = 1+s.IntN(9), s.IntN(12), stampOf(s.IntN(3), s.IntN(3))
	case 3:
		l.SendCur, l.Ceil, l.Seen = uint64(s.IntN(99)), uint64(s.IntN(99)), greatest()
	}
	return l
}

// state is one that may be.
func (s sampler) state() ([]api.Peer, []api.Lane) {
	var peers []api.Peer
	var lanes []api.Lane
	texts := prefixTexts()
	for i := range 1 + s.IntN(6) {
		lanes = append(lanes, s.lane(key(i+1)))
	}
	for i, link := range []int{1, 2, 3, 7, 9} {
		if i < len(lanes) && s.IntN(2) == 0 {
			p := peerOf(link, key(i+1))
			for range s.IntN(3) {
				at := s.IntN(len(texts))
				p.Prefixes = append(p.Prefixes, pre(texts[at]))
				texts = slices.Delete(texts, at, at+1)
			}
			slices.SortFunc(p.Prefixes, func(a, b api.Prefix) int { return slices.Compare(prefixNumbers(a), prefixNumbers(b)) })
			peers = append(peers, p)
		}
	}
	return peers, lanes
}

// prefixNumbers are in the order of prefixes.
func prefixNumbers(p api.Prefix) []uint64 {
	return []uint64{uint64(p.Addr.Family), uint64(p.Bits), p.Addr.Hi, p.Addr.Lo}
}

// device is one that a Boot takes.
func (s sampler) device(t *testing.T) *disk.Disk {
	t.Helper()
	if s.IntN(3) == 0 {
		return formatted(t, pick(s, 32, 33, 64))
	}
	peers, lanes := s.state()
	epoch, seq := 1+s.IntN(4), 1+s.IntN(40)
	switch s.IntN(8) {
	case 0:
		seq = maxSeq - 6*s.IntN(3)
	case 1:
		epoch = maxSeq - s.IntN(2)
	}
	var txs []api.Set
	if s.IntN(2) == 0 {
		n := pick(s, 1, 3, 7, 10)
		seq = min(seq, maxSeq-n)
		txs = flips(n, lanes[0])
	}
	return laid(t, pick(s, 32, 40, 64), epoch, seq, rowsOf(peers, lanes, s.IntN(5)), txs...)
}

// sampled is a node, the device as it was ahead of its Boot, and packets that have been.
type sampled struct {
	*both
	before *disk.Disk
	old    [][]byte
}

func (s sampler) node(t *testing.T) *sampled {
	t.Helper()
	d := s.device(t)
	return &sampled{both: over(t, twin(t, d), s.params()), before: d}
}

func (s sampler) change(p told) api.Change {
	k := s.key()
	side := s.IntN(2)
	if l, there := laneAmong(p.lanes, k); there && s.IntN(5) > 0 {
		side = l.Side
	}
	link := s.link()
	if s.IntN(40) == 0 {
		link = pick(s, oddLinks()...)
	}
	switch s.IntN(9) {
	case 0, 1:
		return add(link, k, side)
	case 2:
		return remove(link)
	case 3:
		return setKey(link, k, side)
	case 4, 5, 6:
		return allow(link, pick(s, prefixTexts()...))
	case 7:
		if s.IntN(5) == 0 {
			return api.Change{Kind: s.IntN(8), Link: link, Side: s.IntN(2), Key: s.list(s.IntN(40))}
		}
	}
	return deny(link, pick(s, prefixTexts()...))
}

// packet is one that is likely to be taken, or nearly: of a peer's key, with numbers near those that its session knows.
func (s sampler) packet(p told) []byte {
	if len(p.peers) == 0 || s.IntN(30) == 0 {
		return sealed(s.key(), s.IntN(2), headOf(1+s.IntN(3), s.link(), 1+s.IntN(3), uint64(s.IntN(9))), s.list(12))
	}
	peer := pick(s, p.peers...)
	v := p.views[peer.Link]
	l, _ := laneAmong(p.lanes, peer.Key)
	kind := pick(s, pkInit, pkReply, pkData, pkData, pkData)
	gen, counter := l.Cur, uint64(s.IntN(3))
	text := s.payload()
	switch kind {
	case pkInit:
		gen, text = max(l.Cur, l.Next*s.IntN(2))+s.IntN(3), stampBytes(stampOf(l.Seen.Sec, min(l.Seen.Nano+s.IntN(3), maxNano)))
	case pkReply:
		gen, text = l.Next, stampBytes(v.Last)
		if len(v.Openings) > 0 {
			o := pick(s, v.Openings...)
			gen, text = o.Gen, stampBytes(o.Stamp)
		}
	default:
		counter = pick(s, v.Top, v.Top, v.Floor, l.Ceil, 0) + uint64(s.IntN(7))
		gen = pick(s, append(v.Olds, l.Cur, l.Cur, l.Cur)...)
		if len(peer.Prefixes) > 0 && s.IntN(4) > 0 {
			from := prefixOf(pick(s, peer.Prefixes...)).Addr().String()
			text = pay(from, from, string(s.list(s.IntN(4))))
		}
	}
	side, link := 1-l.Side, peer.Link
	if s.IntN(30) == 0 {
		side = l.Side
	}
	if s.IntN(30) == 0 {
		link = s.link()
	}
	b := sealed(peer.Key, side, headOf(kind, link, min(max(gen, 1), maxGen), min(counter, maxCounter)), text)
	switch s.IntN(40) {
	case 0:
		b[s.IntN(len(b))] ^= 1 << s.IntN(8)
	case 1:
		b = b[:s.IntN(len(b))]
	}
	return b
}

// call is any that may come next, of a node that tells this.
func (s sampler) call(p told) call {
	switch n := s.IntN(20); {
	case n < 5:
		var l []api.Change
		count := pick(s, 1, 1, 1, 1, 2, 2, 3, 5)
		if s.IntN(20) == 0 {
			count = pick(s, 0, 33)
		}
		for range count {
			l = append(l, s.change(p))
		}
		return commit(l...)
	case n < 9:
		return send(s.payload())
	case n < 12:
		if s.IntN(12) == 0 {
			return rekey(pick(s, oddLinks()...))
		}
		if len(p.peers) > 0 && s.IntN(4) > 0 {
			return rekey(pick(s, p.peers...).Link)
		}
		return rekey(s.link())
	case n < 13:
		return tick(s.stamp())
	}
	return take(s.packet(p))
}

func (s sampler) faults() []api.Fault {
	out := []api.Fault{fault(1+s.IntN(8), 1+s.IntN(2))}
	if s.IntN(2) == 0 {
		out = append(out, fault(9+s.IntN(20), 1+s.IntN(2)))
	}
	return out
}

func (s sampler) keep(n int) []bool {
	out := make([]bool, s.IntN(n+2))
	for i := range out {
		out[i] = s.IntN(2) == 0
	}
	return out
}

// tally counts what calls have come to.
type tally map[string]int

func (n tally) see(c call, a answer) {
	switch {
	case a.err != api.OK:
		n[fmt.Sprintf("%s %d", c.kind, int(a.err))]++
	case c.kind == "Take":
		n[fmt.Sprintf("Take kind %d %d", a.taken.Kind, int(a.taken.Code))]++
	default:
		n[c.kind]++
	}
}

func (n tally) want(t *testing.T, least int, all ...string) {
	t.Helper()
	for _, what := range all {
		if n[what] < least {
			t.Errorf("%s: only %d times", what, n[what])
		}
	}
}

// wants are what any calls ought to come to.
func wants() []string {
	out := []string{"Commit", "Send", "Rekey", "Tick", "Take kind 2 0", "Take kind 3 0", "Take kind 4 0", "Boot", "Boot 201", "Boot 113"}
	for _, e := range []int{200, 201, 113, 160, 161, 162, 164, 165, 168, 169, 171, 173, 174} {
		out = append(out, fmt.Sprint("Commit ", e))
	}
	for _, e := range []int{200, 201, 113, 203, 204, 205} {
		out = append(out, fmt.Sprint("Send ", e))
	}
	for _, e := range []int{200, 201, 113, 161, 168, 169, 206} {
		out = append(out, fmt.Sprint("Rekey ", e))
	}
	for e := 210; e <= 217; e++ {
		out = append(out, fmt.Sprint("Take kind 1 ", e))
	}
	return append(out, "Tick 200", "Tick 207", "Take 200", "Take 201", "Take 113")
}

// P20.1 to P20.8, P20.12, P20.13: any calls, of nodes over any devices, with anything armed, reboots and crashes between, against the plain form: what they answer, what the device is, and all that is told behind each.
func TestAnyCalls(t *testing.T) {
	t.Parallel()
	n := tally{}
	for seed := range 300 {
		s := newSampler(uint64(seed))
		b := s.node(t)
		for range 50 {
			switch x := s.IntN(40); {
			case x == 0 || b.p.stopped() && x < 15:
				if !b.d.Power() || s.IntN(2) == 0 {
					b.crash(s.keep(len(b.d.Pending())))
				}
				if s.IntN(3) == 0 {
					b.arm(t, s.faults()...)
				}
				for b.n == nil || b.p.stopped() {
					e := b.boot(t, s.params())
					n.see(call{kind: "Boot"}, answer{err: e})
					if e == api.ErrSeqs {
						break
					}
					if e != api.OK {
						b.crash(s.keep(len(b.d.Pending())))
					}
				}
			case x < 3 && b.d.Power():
				b.arm(t, s.faults()...)
			case x == 3 && s.IntN(4) == 0:
				b.d.Claim()
				b.pd.Claim()
				b.look(t)
			}
			if b.n == nil { // no seq is left for a life more
				break
			}
			c := s.call(b.p.tell())
			if c.kind == "Take" && s.IntN(6) == 0 && len(b.old) > 0 {
				c = take(pick(s, b.old...))
			}
			a := b.do(t, c)
			n.see(c, a)
			if c.kind == "Take" {
				b.old = append(b.old, c.data)
			}
		}
	}
	n.want(t, 5, wants()...)
}
