package stamp_test

import (
	"cmp"
	"encoding/binary"
	"fmt"
	"math"
	"math/big"
	"math/rand/v2"
	"regexp"
	"slices"

	"culvert/api"
)

// The words of the chapter by other means than the package's, to hold the package against: stamps as their places in the order, texts by a pattern, great numbers.

const (
	maxSec  = math.MaxInt64
	maxNano = 999999999
)

var (
	zero     = api.Stamp{}
	greatest = api.Stamp{Sec: maxSec, Nano: maxNano}
)

func stampOf(sec, nano int) api.Stamp { return api.Stamp{Sec: sec, Nano: nano} }

// edgeNumbers are numbers at the bounds of both fields, of an int, and of the bytes in which they stand, with their neighbours.
func edgeNumbers() []int {
	out := []int{math.MinInt, math.MinInt + 1, -1 << 32, -maxNano - 1, -maxNano, -10, -1, math.MaxInt - 1, math.MaxInt}
	for _, x := range []int{1, 10, 100, 1 << 8, 1 << 16, 100000000, maxNano, maxNano + 1, 1 << 30, 1 << 31, 1 << 32, 1 << 40, 1 << 48, 1 << 56, 1 << 62, maxSec / 10} {
		out = append(out, x-1, x, x+1)
	}
	slices.Sort(out)
	return slices.Compact(out)
}

func plainValid(s api.Stamp) bool {
	return s.Sec >= 0 && s.Nano >= 0 && s.Nano < 1000000000
}

// edgePairs are all pairs of edge numbers, stamps or not.
func edgePairs() []api.Stamp {
	var out []api.Stamp
	for _, sec := range edgeNumbers() {
		for _, nano := range edgeNumbers() {
			out = append(out, stampOf(sec, nano))
		}
	}
	return out
}

// edgeStamps are those of the edge pairs that are stamps, in order.
func edgeStamps() []api.Stamp {
	out := slices.DeleteFunc(edgePairs(), func(s api.Stamp) bool { return !plainValid(s) })
	slices.SortFunc(out, plainOrder)
	return out
}

// noStamps are those of the edge pairs that are none.
func noStamps() []api.Stamp { return slices.DeleteFunc(edgePairs(), plainValid) }

func plainOrder(a, b api.Stamp) int {
	return cmp.Or(cmp.Compare(a.Sec, b.Sec), cmp.Compare(a.Nano, b.Nano))
}

// sampler makes stamps that are the same at every run.
type sampler struct{ *rand.Rand }

func newSampler(seed uint64) sampler { return sampler{rand.New(rand.NewPCG(seed, 6))} }

// stamp has seconds and nanoseconds of any length.
func (s sampler) stamp() api.Stamp {
	return stampOf(s.Int()>>s.IntN(63), s.IntN(maxNano+1)>>s.IntN(30))
}

// sampleStamps are the edge stamps and many others.
func sampleStamps(seed uint64) []api.Stamp {
	s, out := newSampler(seed), edgeStamps()
	for range 3000 {
		out = append(out, s.stamp())
	}
	return out
}

// place tells how many stamps are ahead of a stamp.
func place(s api.Stamp) *big.Int {
	seconds := new(big.Int).Mul(big.NewInt(int64(s.Sec)), big.NewInt(maxNano+1))
	return seconds.Add(seconds, big.NewInt(int64(s.Nano)))
}

// atPlace is the stamp that so many are ahead of.
func atPlace(p *big.Int) api.Stamp {
	sec, nano := new(big.Int).DivMod(p, big.NewInt(maxNano+1), new(big.Int))
	return stampOf(int(sec.Int64()), int(nano.Int64()))
}

// beside is the stamp so many places away from s.
func beside(s api.Stamp, far int64) api.Stamp {
	return atPlace(new(big.Int).Add(place(s), big.NewInt(far)))
}

func plainPut(s api.Stamp) []byte {
	return binary.BigEndian.AppendUint32(binary.BigEndian.AppendUint64(nil, uint64(s.Sec)), uint32(s.Nano))
}

func plainGet(b []byte) (api.Stamp, api.Errno) {
	if len(b) != 12 || b[0] >= 0x80 || new(big.Int).SetBytes(b[8:]).Cmp(big.NewInt(maxNano)) > 0 {
		return zero, api.ErrStampForm
	}
	return stampOf(int(binary.BigEndian.Uint64(b)), int(binary.BigEndian.Uint32(b[8:]))), api.OK
}

func plainPrint(s api.Stamp) string { return fmt.Sprintf("%d.%09d", s.Sec, s.Nano) }

var pattern = regexp.MustCompile(`\A(0|[1-9][0-9]*)\.([0-9]{9})\z`)

func plainParse(t string) (api.Stamp, api.Errno) {
	parts := pattern.FindStringSubmatch(t)
	if parts == nil {
		return zero, api.ErrStampForm
	}
	sec, _ := new(big.Int).SetString(parts[1], 10)
	nano, _ := new(big.Int).SetString(parts[2], 10)
	if !sec.IsInt64() {
		return zero, api.ErrStampForm
	}
	return stampOf(int(sec.Int64()), int(nano.Int64())), api.OK
}
