package lane_test

import (
	"bytes"
	"encoding/binary"
	"math"
	"math/big"
	"math/rand/v2"
	"slices"

	"culvert/api"
)

// The chapter's words by other means: whole numbers without a bound, all that a call may be refused by asked one by one, the answer written field by field.

const (
	maxGen     = 2147483647
	maxBlock   = 1048576
	maxCounter = uint64(18446744073709551614)
	maxSec     = math.MaxInt64
	maxNano    = 999999999
)

// key is 32 bytes, unlike for each number.
func key(number int) []byte {
	b := binary.BigEndian.AppendUint32(nil, uint32(number))
	for i := range 28 {
		b = append(b, byte(number*5+7*i))
	}
	return b
}

func stampOf(sec, nano int) api.Stamp { return api.Stamp{Sec: sec, Nano: nano} }

// call is one that is handed a lane, with what it is handed besides; what its kind does not have is zero.
type call struct {
	kind    string
	gen     int
	counter uint64 // Reserve's at too
	stamp   api.Stamp
	block   int
}

func again() call   { return call{kind: "Again"} }
func propose() call { return call{kind: "Propose"} }

func reserve(at uint64, block int) call { return call{kind: "Reserve", counter: at, block: block} }

func raise(counter uint64, block int) call {
	return call{kind: "Raise", counter: counter, block: block}
}

func answered(gen int, counter uint64, s api.Stamp, block int) call {
	return call{kind: "Answered", gen: gen, counter: counter, stamp: s, block: block}
}

func opened(gen int, counter uint64, block int) call {
	return call{kind: "Opened", gen: gen, counter: counter, block: block}
}

// answer is all that a call answers; what its kind does not answer is zero.
type answer struct {
	lane    api.Lane
	gen     int    // that Propose gives
	counter uint64 // of Answered's answer
	err     api.Errno
}

func whole(x uint64) *big.Int { return new(big.Int).SetUint64(x) }

// place tells how many stamps are ahead of one.
func place(s api.Stamp) *big.Int {
	seconds := new(big.Int).Mul(big.NewInt(int64(s.Sec)), big.NewInt(1000000000))
	return seconds.Add(seconds, big.NewInt(int64(s.Nano)))
}

func plainStamp(s api.Stamp) bool { return s.Sec >= 0 && s.Nano >= 0 && s.Nano < 1000000000 }

func plainBlock(block int) bool { return block > 0 && block <= 1048576 }

// plainFaults are the fields by which a lane may not be so.
func plainFaults(l api.Lane) []string {
	var out []string
	for _, one := range []struct {
		field string
		wrong bool
	}{
		{"Key", len(l.Key) != 32},
		{"Side", l.Side != 0 && l.Side != 1},
		{"Cur", l.Cur < 1 || l.Cur > 2147483647},
		{"Next", l.Next < 0 || l.Next > 2147483647},
		{"Seen", !plainStamp(l.Seen)},
	} {
		if one.wrong {
			out = append(out, one.field)
		}
	}
	return out
}

func plainUp(c uint64, block int) uint64 {
	if !plainBlock(block) {
		return 0
	}
	sum, end := new(big.Int).Add(whole(c), big.NewInt(int64(block))), whole(math.MaxUint64)
	if sum.Cmp(end) > 0 {
		sum = end
	}
	return sum.Uint64()
}

// plainNewest is the greater one of Cur and Next.
func plainNewest(l api.Lane) int { return slices.Max([]int{l.Cur, l.Next}) }

// refusals are all that a call of a lane that may be is refused by.
func (c call) refusals(l api.Lane) []string {
	type refusal struct {
		why     string
		applies bool
	}
	block := refusal{"block", !plainBlock(c.block)}
	counter := refusal{"counter above MaxCounter", whole(c.counter).Cmp(whole(maxCounter)) > 0}
	noGen := refusal{"no generation left", plainNewest(l) == 2147483647}
	notAbove := refusal{"gen not above Cur", c.gen <= l.Cur}
	var all []refusal
	switch c.kind {
	case "Again", "Propose":
		all = []refusal{noGen}
	case "Reserve":
		all = []refusal{block, counter, {"at below SendCur", whole(c.counter).Cmp(whole(l.SendCur)) < 0}}
	case "Raise":
		all = []refusal{block, counter, {"counter below Ceil", whole(c.counter).Cmp(whole(l.Ceil)) < 0}}
	case "Answered":
		all = []refusal{block, counter, notAbove, {"gen above MaxGen", c.gen > 2147483647}, {"no stamp", !plainStamp(c.stamp)}, {"stamp not above Seen", place(c.stamp).Cmp(place(l.Seen)) <= 0}}
	case "Opened":
		all = []refusal{block, counter, notAbove, {"gen above Next", c.gen > l.Next}}
	}
	var out []string
	for _, one := range all {
		if one.applies {
			out = append(out, one.why)
		}
	}
	return out
}

// plain is what a call must answer.
func (c call) plain(l api.Lane) answer {
	mayFail := c.kind == "Again" || c.kind == "Propose"
	switch {
	case len(plainFaults(l)) > 0 && mayFail:
		return answer{err: 2}
	case len(plainFaults(l)) > 0:
		return answer{}
	case len(c.refusals(l)) > 0 && mayFail:
		return answer{err: 168}
	case len(c.refusals(l)) > 0:
		return answer{}
	}
	key := bytes.Clone(l.Key)
	switch c.kind {
	case "Again":
		return answer{lane: api.Lane{Key: key, Side: l.Side, Cur: plainNewest(l) + 1, Next: l.Next, SendCur: 0, Ceil: 0, Seen: l.Seen}}
	case "Propose":
		g := plainNewest(l) + 1
		return answer{lane: api.Lane{Key: key, Side: l.Side, Cur: l.Cur, Next: g, SendCur: l.SendCur, Ceil: l.Ceil, Seen: l.Seen}, gen: g}
	case "Reserve":
		return answer{lane: api.Lane{Key: key, Side: l.Side, Cur: l.Cur, Next: l.Next, SendCur: plainUp(c.counter, c.block), Ceil: l.Ceil, Seen: l.Seen}}
	case "Raise":
		return answer{lane: api.Lane{Key: key, Side: l.Side, Cur: l.Cur, Next: l.Next, SendCur: l.SendCur, Ceil: plainUp(c.counter, c.block), Seen: l.Seen}}
	case "Opened":
		return answer{lane: api.Lane{Key: key, Side: l.Side, Cur: c.gen, Next: l.Next, SendCur: plainUp(1, c.block), Ceil: plainUp(c.counter, c.block), Seen: l.Seen}}
	}
	own := uint64(0)
	if c.gen <= l.Next {
		own = 1
	}
	return answer{lane: api.Lane{Key: key, Side: l.Side, Cur: c.gen, Next: l.Next, SendCur: plainUp(own, c.block), Ceil: plainUp(c.counter, c.block), Seen: c.stamp}, counter: own}
}

// Numbers at the bounds of each field, and at those of the kinds of numbers that it may be turned into.

func edgeSides() []int {
	return []int{math.MinInt, -1 << 32, -2, -1, 0, 1, 2, 3, 255, 256, 257, 1 << 32, 1<<32 + 1, math.MaxInt}
}

func edgeGens() []int {
	return []int{math.MinInt, math.MinInt + 1, -maxGen, -1 << 32, -2, -1, 0, 1, 2, 3, 4, 5, 6, 7, maxGen - 2, maxGen - 1, maxGen, maxGen + 1, maxGen + 2, 1 << 32, 1<<32 + 1, 1<<32 + 5, math.MaxInt - 1, math.MaxInt}
}

func edgeBlocks() []int {
	return []int{math.MinInt, math.MinInt + 1, -maxBlock, -10, -1, 0, 1, 2, 10, maxBlock - 1, maxBlock, maxBlock + 1, maxBlock + 2, 1 << 32, 1<<32 + 1, math.MaxInt - 1, math.MaxInt}
}

func edgeCounters() []uint64 {
	out := []uint64{0, 1, 2, 9, 10, 11, 1<<31 - 1, 1 << 31, 1<<32 - 1, 1 << 32, 1<<63 - 1, 1 << 63, 1<<63 + 1}
	for _, below := range []uint64{0, 1, 2, 3, 9, 10, 11, 12, maxBlock - 2, maxBlock - 1, maxBlock, maxBlock + 1, maxBlock + 2} {
		out = append(out, math.MaxUint64-below)
	}
	return out
}

// edgeStamps are stamps, in order.
func edgeStamps() []api.Stamp {
	return []api.Stamp{{}, {Nano: 1}, {Nano: maxNano}, {Sec: 4, Nano: maxNano}, {Sec: 5}, {Sec: 5, Nano: 1}, {Sec: 5, Nano: 7}, {Sec: 6}, {Sec: maxSec, Nano: maxNano - 1}, {Sec: maxSec, Nano: maxNano}}
}

// noStamps are none, some of them above all stamps by one of their numbers, some beside one.
func noStamps() []api.Stamp {
	return []api.Stamp{
		{Sec: -1}, {Sec: -1, Nano: maxNano}, {Nano: -1}, {Nano: maxNano + 1}, {Sec: 5, Nano: -1}, {Sec: 6, Nano: -1}, {Sec: 5, Nano: maxNano + 1},
		{Sec: math.MinInt}, {Sec: math.MinInt, Nano: math.MinInt}, {Sec: maxSec, Nano: maxNano + 1}, {Sec: maxSec, Nano: -1}, {Sec: maxSec, Nano: math.MaxInt}, {Sec: 6, Nano: 1 << 32},
	}
}

// edgeKeys are lists of bytes, few of them keys.
func edgeKeys() [][]byte {
	out := [][]byte{nil, {}}
	for _, n := range []int{1, 16, 31, 33, 64, 256 + 32, 65536 + 32} {
		out = append(out, bytes.Repeat([]byte{7}, n))
	}
	return append(out, key(1), make([]byte, 32), bytes.Repeat([]byte{255}, 32))
}

// someLane has fields that are unlike one another, and none of them zero.
func someLane() api.Lane {
	return api.Lane{Key: key(3), Side: 1, Cur: 3, Next: 5, SendCur: 100, Ceil: 40, Seen: stampOf(5, 7)}
}

// sampler makes things that are the same at every run.
type sampler struct{ *rand.Rand }

func newSampler(seed uint64) sampler { return sampler{rand.New(rand.NewPCG(seed, 17))} }

func pick[T any](s sampler, l []T) T { return l[s.IntN(len(l))] }

// beside is a number at most two away from x; it may wrap, and is then an edge.
func (s sampler) beside(x uint64) uint64 { return x + uint64(s.IntN(5)) - 2 }

func (s sampler) counter(l api.Lane) uint64 {
	switch s.IntN(6) {
	case 0:
		return pick(s, edgeCounters())
	case 1:
		return s.beside(l.SendCur)
	case 2:
		return s.beside(l.Ceil)
	case 3:
		return s.Uint64()
	}
	return s.Uint64() >> s.IntN(64)
}

func (s sampler) gen(l api.Lane) int {
	switch s.IntN(6) {
	case 0:
		return pick(s, edgeGens())
	case 1:
		return l.Next + s.IntN(5) - 2
	case 2:
		return s.IntN(maxGen) + 1
	}
	return l.Cur + s.IntN(6) - 2
}

func (s sampler) stamp(l api.Lane) api.Stamp {
	switch s.IntN(8) {
	case 0:
		return pick(s, noStamps())
	case 1:
		return pick(s, edgeStamps())
	case 2:
		return l.Seen
	case 3:
		return stampOf(l.Seen.Sec, l.Seen.Nano+s.IntN(3)-1)
	case 4:
		return stampOf(s.Int(), s.IntN(maxNano+1))
	}
	return stampOf(l.Seen.Sec+s.IntN(3)-1, s.IntN(maxNano+1))
}

func (s sampler) block() int {
	switch s.IntN(4) {
	case 0:
		return pick(s, edgeBlocks())
	case 1:
		return s.IntN(maxBlock) + 1
	}
	return s.IntN(20) + 1
}

func kinds() []string {
	return []string{"Again", "Propose", "Reserve", "Raise", "Answered", "Opened"}
}

// call is of any kind, with numbers near those of the lane and with others.
func (s sampler) call(l api.Lane) call {
	switch pick(s, kinds()) {
	case "Again":
		return again()
	case "Propose":
		return propose()
	case "Reserve":
		return reserve(s.counter(l), s.block())
	case "Raise":
		return raise(s.counter(l), s.block())
	case "Answered":
		return answered(s.gen(l), s.counter(l), s.stamp(l), s.block())
	}
	return opened(s.gen(l), s.counter(l), s.block())
}

// lane may be so, with numbers of any size.
func (s sampler) lane() api.Lane {
	l := api.Lane{Key: key(s.IntN(1000)), Side: s.IntN(2), Cur: 1 + s.IntN(maxGen)>>s.IntN(31), Next: s.IntN(maxGen+1) >> s.IntN(32)}
	switch s.IntN(5) {
	case 0:
		l.Cur = maxGen - s.IntN(3)
	case 1:
		l.Next = maxGen - s.IntN(3)
	case 2:
		l.Next = min(maxGen, l.Cur+s.IntN(5))
	}
	l.SendCur, l.Ceil = s.counter(l), s.counter(l)
	l.Seen = stampOf(s.Int()>>s.IntN(63), s.IntN(maxNano+1))
	if s.IntN(3) == 0 {
		l.Seen = pick(s, edgeStamps())
	}
	return l
}
