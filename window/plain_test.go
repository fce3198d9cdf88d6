package window_test

import (
	"math"
	"math/big"
	"math/rand/v2"
	"slices"
)

// The chapter's words by other means: all numbers that were ever taken, and whole numbers without a bound.

const last = uint64(math.MaxUint64)

type plain struct {
	floor    uint64
	width    int
	taken    map[uint64]int // each number that was taken, and as which one
	greatest *big.Int       // of them; nil, if there is none
}

func newPlain(floor uint64, width int) *plain {
	return &plain{floor: floor, width: width, taken: map[uint64]int{}}
}

func whole(x uint64) *big.Int { return new(big.Int).SetUint64(x) }

func (p *plain) top() (uint64, bool) {
	if p.greatest == nil {
		return 0, false
	}
	return p.greatest.Uint64(), true
}

// refusals are all that a number is refused by.
func (p *plain) refusals(c uint64) []string {
	var out []string
	if whole(c).Cmp(whole(p.floor)) < 0 {
		out = append(out, "below the floor")
	}
	if _, ok := p.taken[c]; ok {
		out = append(out, "taken")
	}
	if p.greatest != nil {
		if less := new(big.Int).Sub(p.greatest, whole(c)); less.Cmp(big.NewInt(int64(p.width))) >= 0 {
			out = append(out, "out of reach")
		}
	}
	return out
}

func (p *plain) takes(c uint64) bool { return len(p.refusals(c)) == 0 }

func (p *plain) mark(c uint64) bool {
	if !p.takes(c) {
		return false
	}
	p.taken[c] = len(p.taken)
	if p.greatest == nil || p.greatest.Cmp(whole(c)) < 0 {
		p.greatest = whole(c)
	}
	return true
}

// widths are all that may be.
func widths() []int {
	return []int{64, 128, 192, 256, 320, 384, 448, 512, 576, 640, 704, 768, 832, 896, 960, 1024}
}

// someWidths: the least ones, some between, the greatest ones.
func someWidths() []int { return []int{64, 128, 192, 448, 512, 960, 1024} }

// up is a number above another one, or below it if more is below 0; the nearest one that there is.
func up(c uint64, more int64) uint64 {
	sum := new(big.Int).Add(whole(c), big.NewInt(more))
	switch {
	case sum.Sign() < 0:
		return 0
	case !sum.IsUint64():
		return last
	}
	return sum.Uint64()
}

// between are all numbers from one to another, both of them too.
func between(from, to uint64) []uint64 {
	out := make([]uint64, 0, to-from+1)
	for i := range to - from {
		out = append(out, from+i)
	}
	return append(out, to)
}

// around are the numbers at most so many away from another one.
func around(c uint64, away int64) []uint64 { return between(up(c, -away), up(c, away)) }

// edgeNumbers: at the ends, at the edges of words, and at those of the kinds of numbers that one may be turned into.
func edgeNumbers() []uint64 {
	var out []uint64
	for _, c := range []uint64{0, 64, 128, 960, 1024, 1088, 1 << 16, 1 << 31, 1 << 32, 1 << 58, 1 << 63, last - 1088, last - 1024, last - 128, last - 64, last} {
		out = append(out, around(c, 2)...)
	}
	slices.Sort(out)
	return slices.Compact(out)
}

// edgeFloors: 0, 1, the greatest number, and some between.
func edgeFloors() []uint64 {
	return []uint64{0, 1, 2, 5, 63, 64, 65, 1000, 1023, 1024, 1025, 1 << 32, 1<<63 - 1, 1 << 63, last - 1024, last - 64, last - 63, last - 1, last}
}

// sampler makes things that are the same at every run.
type sampler struct{ *rand.Rand }

func newSampler(seed uint64) sampler { return sampler{rand.New(rand.NewPCG(seed, 18))} }

func pick[T any](s sampler, l []T) T { return l[s.IntN(len(l))] }
