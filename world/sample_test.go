package world_test

import (
	"fmt"
	"math"
	"math/rand/v2"
	"slices"
	"testing"

	"culvert/api"
)

// sampler makes steps that are the same at every run. It knows few links and keys, so that they meet again.
type sampler struct{ *rand.Rand }

func newSampler(seed uint64) sampler { return sampler{rand.New(rand.NewPCG(seed, 23))} }

func pick[T any](s sampler, l ...T) T { return l[s.IntN(len(l))] }

func (s sampler) once(in int) bool { return s.IntN(in) == 0 }

func (s sampler) list(n int) []byte {
	b := make([]byte, n)
	for i := range b {
		b[i] = byte(s.Uint32())
	}
	return b
}

func (s sampler) sectors() int { return pick(s, 32, 32, 33, 40, 64) }

func (s sampler) odd() int {
	return pick(s, math.MinInt, -1<<32, -2, -1, 0, 2, 3, 100, 101, 255, 256, 1<<32, 1<<32+1, math.MaxInt)
}

func (s sampler) link() int { return pick(s, 7, 7, 7, 7, 8, 9) }

// keyOf is the key that a link has mostly.
func (s sampler) keyOf(link int) []byte {
	if s.once(8) {
		return key(1 + s.IntN(4))
	}
	return key(link - 6)
}

// prefixes of what lies behind a node: node 0 has 10.0/16, node 1 has 10.1/16.
func (s sampler) prefix(behind int) string {
	return pick(s, fmt.Sprintf("10.%d.0.0/16", behind), fmt.Sprintf("10.%d.0.0/16", behind), fmt.Sprintf("10.%d.2.0/24", behind), "0.0.0.0/0", "fd00::/8", fmt.Sprintf("fd00:%d::/32", behind))
}

func (s sampler) address(behind int, four bool) string {
	if four {
		return pick(s, fmt.Sprintf("10.%d.0.1", behind), fmt.Sprintf("10.%d.2.1", behind), fmt.Sprintf("10.%d.0.9", behind), "11.0.0.1")
	}
	return fmt.Sprintf("fd00:%d::1", behind)
}

// payload goes from a node to the other one.
func (s sampler) payload(a int) []byte {
	if s.once(25) {
		return s.list(s.IntN(40))
	}
	four := !s.once(4)
	return pay(s.address(a, four), s.address(1-a, four), string(s.list(s.IntN(5))))
}

func (s sampler) change(a int) api.Change {
	link := s.link()
	side := a
	if s.once(12) {
		side = s.IntN(3) - s.IntN(2)
	}
	switch s.IntN(12) {
	case 0, 1, 2:
		return api.Change{Kind: api.ChAdd, Link: link, Key: s.keyOf(link), Side: side}
	case 3:
		return api.Change{Kind: api.ChRemove, Link: link}
	case 4:
		return api.Change{Kind: api.ChSetKey, Link: link, Key: s.keyOf(link), Side: side}
	case 5:
		if s.once(3) {
			return api.Change{Kind: s.odd(), Link: s.odd(), Key: s.list(s.IntN(40)), Side: s.odd()}
		}
		return api.Change{Kind: api.ChDeny, Link: link, Prefix: pre(s.prefix(1 - a))}
	}
	return api.Change{Kind: api.ChAllow, Link: link, Prefix: pre(s.prefix(1 - a))}
}

func (s sampler) changes(a int) []api.Change {
	var out []api.Change
	for range pick(s, 1, 1, 1, 2, 2, 3, 4) {
		out = append(out, s.change(a))
	}
	return out
}

func (s sampler) stamp() api.Stamp {
	switch s.IntN(30) {
	case 0:
		return stampOf(s.odd(), s.odd())
	case 1:
		return stampOf(maxSec, maxNano-1)
	}
	return stampOf(s.IntN(20), s.IntN(3))
}

// packet is one that node a is likely to take, or nearly; the script has the keys.
func (s sampler) packet(p *plain, a int) []byte {
	link := s.link()
	k := s.keyOf(link)
	gen, counter := 1+s.IntN(5), uint64(s.IntN(12))
	if p.isUp(a) {
		for _, l := range p.nodes[a].Lanes() { // numbers near those that the node has
			if slices.Equal(l.Key, k) && !s.once(5) {
				gen, counter = l.Cur+s.IntN(3), l.Ceil-min(l.Ceil, 4)+uint64(s.IntN(8))
			}
		}
	}
	var text []byte
	kind := pick(s, pkInit, pkInit, pkReply, pkData, pkData, pkData)
	if kind == pkData {
		text = s.payload(1 - a)
		if len(text) < 9 {
			text = pay("10.0.0.1", "10.1.0.1", "")
		}
	} else {
		text = stampBytes(stampOf(s.IntN(25), s.IntN(3)))
	}
	if s.once(60) || gen > maxGen || counter > maxCounter {
		gen, counter = maxGen-s.IntN(2), maxCounter-uint64(s.IntN(2))
	}
	b := sealed(k, 1-a, headOf(kind, link, gen, counter), text)
	if s.once(12) {
		b[s.IntN(len(b))] ^= 1 << s.IntN(8)
	}
	return b
}

// junk is for node a: of no sense, or something that has been under way, or a packet that may be.
func (s sampler) junk(p *plain, a int) []byte {
	switch s.IntN(10) {
	case 0:
		return s.list(pick(s, 0, 1, 20, 36, 48, 60, maxJunk, maxJunk+1))
	case 1, 2, 3:
		if len(p.under) > 0 {
			return slices.Clone(pick(s, p.under...).Data)
		}
	}
	return s.packet(p, a)
}

func (s sampler) number(p *plain) int {
	if len(p.under) == 0 || s.once(20) {
		return pick(s, s.odd(), p.given, p.given+1)
	}
	if s.once(2) {
		return p.under[len(p.under)-1].No
	}
	return pick(s, p.under...).No
}

func (s sampler) faults() []api.Fault {
	var out []api.Fault
	for range s.IntN(3) {
		out = append(out, api.Fault{At: 1 + s.IntN(9), Kind: 1 + s.IntN(2)})
	}
	if s.once(10) {
		out = append(out, api.Fault{At: s.odd(), Kind: s.odd()})
	}
	return out
}

func (s sampler) keep() []bool {
	out := make([]bool, s.IntN(6))
	for i := range out {
		out[i] = s.once(2)
	}
	return out
}

func (s sampler) params() api.Params {
	if s.once(15) {
		return api.Params{Block: s.odd(), Width: s.odd()}
	}
	return api.Params{Block: pick(s, 1, 1, 2, 4, 8, 1048576), Width: pick(s, 64, 64, 128, 1024)}
}

// kind is one that may come next: now and then any number, but mostly such as make something happen.
func (s sampler) kind(p *plain, a int) int {
	if s.once(60) {
		return s.odd()
	}
	if !p.isUp(a) && !s.once(4) {
		if !p.devices[a].Power() {
			return pick(s, api.OpCrash, api.OpCrash, api.OpBoot, api.OpArm)
		}
		return pick(s, api.OpBoot, api.OpBoot, api.OpBoot, api.OpCrash, api.OpLook)
	}
	return pick(s, api.OpCommit, api.OpCommit, api.OpSend, api.OpSend, api.OpSend, api.OpSend, api.OpRekey, api.OpRekey, api.OpTick, api.OpGive, api.OpGive, api.OpGive, api.OpGive,
		api.OpDrop, api.OpCopy, api.OpFlip, api.OpJunk, api.OpJunk, api.OpJunk, api.OpArm, api.OpCrash, api.OpBoot, api.OpLook, api.OpRun, api.OpRun)
}

// op is a step that may come next.
func (s sampler) op(p *plain) api.Op {
	a := s.IntN(2)
	op := api.Op{Kind: s.kind(p, a), A: a}
	switch op.Kind {
	case api.OpCommit:
		op.Changes = s.changes(a)
	case api.OpSend:
		op.Data = s.payload(a)
	case api.OpRekey:
		op.Link = s.link()
		if s.once(20) {
			op.Link = s.odd()
		}
	case api.OpTick:
		op.Stamp = s.stamp()
	case api.OpGive, api.OpDrop, api.OpCopy:
		op.A, op.K = 0, s.number(p)
	case api.OpFlip:
		op.A, op.K, op.At, op.X = 0, s.number(p), s.IntN(70), 1+s.IntN(255)
		if s.once(10) {
			op.At, op.X = s.odd(), s.odd()
		}
	case api.OpJunk:
		op.Data = s.junk(p, a)
	case api.OpArm:
		op.Faults = s.faults()
	case api.OpCrash:
		op.Keep = s.keep()
	case api.OpBoot:
		op.Params = s.params()
	case api.OpRun:
		op.A, op.K = 0, pick(s, 1, 1, 1, 2, 3, 100)
	}
	if s.once(40) {
		op.A = s.odd()
	}
	return op
}

// first are steps that lay a tunnel, most times.
func (s sampler) first(t *testing.T) []api.Op {
	if s.once(5) {
		return nil
	}
	return steps(t, tunnel()...)
}

// P23.1 to P23.6: long scripts of any steps against the plain form; behind each step all that can be asked.
func TestAnySteps(t *testing.T) {
	t.Parallel()
	met := tally{}
	for seed := range 120 {
		s := newSampler(uint64(seed))
		x := newBoth(t, s.sectors())
		x.met = met
		for _, op := range s.first(t) {
			x.do(op)
		}
		for range 150 {
			x.do(s.op(x.p))
		}
	}
	met.want(t, 3, wants()...)
}

// wants are what any steps ought to come to.
func wants() []string {
	var out []string
	refused := func(kind int, codes ...int) {
		for _, code := range codes {
			out = append(out, fmt.Sprintf("step %d event 1 code %d", kind, code))
		}
	}
	refused(api.OpCommit, 2, 160, 163, 164, 169, 171, 173, 174, 200, 201)
	refused(api.OpSend, 2, 200, 201, 203, 204)
	refused(api.OpRekey, 2, 161, 169, 200, 201)
	refused(api.OpTick, 2, 200, 207)
	refused(api.OpGive, 201, 218)
	refused(api.OpDrop, 218)
	refused(api.OpCopy, 218)
	refused(api.OpFlip, 2, 218)
	refused(api.OpJunk, 2)
	refused(api.OpArm, 2, 104, 105)
	refused(api.OpCrash, 2)
	refused(api.OpBoot, 2, 201, 202, 230)
	refused(api.OpLook, 2)
	refused(api.OpRun, 201)
	for _, kind := range []int{api.OpCommit, api.OpTick, api.OpDrop, api.OpFlip, api.OpArm} {
		out = append(out, fmt.Sprintf("step %d event 2", kind))
	}
	for _, kind := range []int{api.OpSend, api.OpRekey, api.OpGive, api.OpCopy, api.OpJunk, api.OpRun} {
		out = append(out, fmt.Sprintf("step %d event 3 lost false", kind))
	}
	for _, kind := range []int{api.OpGive, api.OpRun} {
		for _, code := range []int{210, 211, 212, 213, 214, 215, 217} {
			out = append(out, fmt.Sprintf("step %d event 5 code %d", kind, code))
		}
		for _, event := range []int{api.EvDelivered, api.EvOpened, api.EvLost} {
			out = append(out, fmt.Sprintf("step %d event %d", kind, event))
		}
	}
	for _, event := range []int{api.EvNode, api.EvUp, api.EvPeer, api.EvLane, api.EvPending, api.EvFlight} {
		out = append(out, fmt.Sprintf("step %d event %d", api.OpLook, event))
	}
	return append(out, fmt.Sprintf("step %d event %d", api.OpCrash, api.EvDown), fmt.Sprintf("step %d event %d", api.OpBoot, api.EvUp))
}

// P23.1 to P23.6: all steps of a few values in each field, in worlds of several kinds.
func TestAllSteps(t *testing.T) {
	t.Parallel()
	s := newSampler(77)
	for _, ahead := range [][]string{nil, {"boot 0 4 64"}, tunnel(), append(tunnel(), "send 0 "+there, "rekey 1 7", "copy 1", "junk 0 -"), append(tunnel(), "send 1 "+back, "arm 0 power 2 io 1", "arm 1 io 2")} {
		for kind := -1; kind <= 16; kind++ {
			x := newBoth(t, 64)
			for _, op := range steps(t, ahead...) {
				x.do(op)
			}
			for _, a := range []int{-1, 0, 1, 2} {
				for _, k := range []int{-1, 0, 1, 2, 3, 5} {
					op := api.Op{Kind: kind, A: a, K: k, At: k, X: k, Link: 7 * k, Data: slices.Repeat([]byte{byte(k)}, max(0, k)), Stamp: stampOf(k, k), Params: api.Params{Block: k, Width: 64},
						Changes: s.changes(a & 1), Faults: s.faults(), Keep: s.keep()}
					x.do(op)
				}
			}
		}
	}
}
