package packet_test

import (
	"bytes"
	library "crypto/aes"
	"crypto/cipher"
	"encoding/binary"
	"math"
	"math/big"
	"math/rand/v2"
	"net/netip"
	"slices"

	"culvert/api"
)

// The words of the chapter by other means than the package's, to hold the package against: the library's numbers, its GCM and its addresses.

const (
	maxLink    = 4294967295
	maxGen     = 2147483647
	maxCounter = uint64(math.MaxUint64 - 1)
	mtu        = 1280
)

var kinds = []int{1, 2, 3} // init, reply, data

func head(kind, link, gen int, counter uint64) api.Head {
	return api.Head{Type: kind, Link: link, Gen: gen, Counter: counter}
}

// counted is n bytes, the first one and then each step more than the one ahead.
func counted(first, step, n int) []byte {
	b := make([]byte, n)
	for i := range b {
		b[i] = byte(first + step*i)
	}
	return b
}

func someKey() []byte  { return counted(3, 7, 32) }
func otherKey() []byte { return counted(4, 7, 32) }

// sampler makes things that are the same at every run.
type sampler struct{ *rand.Rand }

func newSampler(seed uint64) sampler { return sampler{rand.New(rand.NewPCG(seed, 9))} }

func (s sampler) list(n int) []byte {
	b := make([]byte, n)
	for i := range b {
		b[i] = byte(s.Uint32())
	}
	return b
}

func (s sampler) gen() int        { return 1 + s.IntN(maxGen)>>s.IntN(31) }
func (s sampler) counter() uint64 { return s.Uint64N(math.MaxUint64) >> s.IntN(64) }

// head has numbers of any length.
func (s sampler) head() api.Head {
	return head(1+s.IntN(3), 1+s.IntN(maxLink)>>s.IntN(32), s.gen(), s.counter())
}

// packet has a text that is short most times, since sealing takes its time.
func (s sampler) packet() api.Packet {
	h := s.head()
	n := 12
	if h.Type == 3 {
		n = 9 + s.IntN(mtu-8)>>s.IntN(11)
	}
	return api.Packet{Head: h, Text: s.list(n)}
}

func (s sampler) addr(family int) api.Addr {
	if family == 4 {
		return addr4(uint64(s.Uint32() >> s.IntN(32)))
	}
	return addr6(s.Uint64()>>s.IntN(64), s.Uint64()>>s.IntN(64))
}

func (s sampler) payload() api.Payload {
	family := 4 + 2*s.IntN(2)
	most := mtu - 1 - 2*addrLength(family)
	return api.Payload{Src: s.addr(family), Dst: s.addr(family), Body: s.list(s.IntN(most+1) >> s.IntN(11))}
}

func addr4(lo uint64) api.Addr     { return api.Addr{Family: 4, Lo: lo} }
func addr6(hi, lo uint64) api.Addr { return api.Addr{Family: 6, Hi: hi, Lo: lo} }

func addrLength(family int) int { return map[int]int{4: 4, 6: 16}[family] }

// edgeInts are numbers at the bounds of the fields of a head, of an int, and of the bytes in which they stand, with their neighbours.
func edgeInts() []int {
	out := []int{math.MinInt, math.MinInt + 1, -1 << 32, -1 << 31, -256, -1, 0, math.MaxInt - 1, math.MaxInt}
	for _, x := range []int{1, 2, 3, 4, 1 << 8, 1 << 16, 1 << 24, maxGen, maxLink, maxLink + 1, 1 << 40} {
		out = append(out, x-1, x, x+1)
	}
	slices.Sort(out)
	return slices.Compact(out)
}

// edgeCounters are the same of counters.
func edgeCounters() []uint64 {
	out := []uint64{0, 1, maxCounter - 1, maxCounter, math.MaxUint64}
	for n := 8; n < 64; n += 8 {
		out = append(out, 1<<n-1, 1<<n, 1<<n+1)
	}
	return append(out, 1<<63-1, 1<<63, 1<<63+1)
}

// edgeHeads are heads that are such and others: all edges of the one number, with few of the others.
func edgeHeads() []api.Head {
	var out []api.Head
	for _, x := range edgeInts() {
		for _, kind := range []int{-1, 0, 1, 2, 3, 4, 256 + 1} {
			out = append(out, head(kind, x, 1, 0), head(kind, maxLink, x, maxCounter))
		}
		out = append(out, head(x, 1, 1, 0), head(x, maxLink, maxGen, maxCounter))
	}
	for _, c := range edgeCounters() {
		for _, kind := range []int{0, 1, 2, 3, 4} {
			out = append(out, head(kind, 1, 1, c), head(kind, maxLink, maxGen, c), head(kind, 0, 1, c), head(kind, 1, 0, c))
		}
	}
	return out
}

// sampleHeads are the edge heads that are such, and many others.
func sampleHeads(seed uint64) []api.Head {
	s := newSampler(seed)
	out := slices.DeleteFunc(edgeHeads(), func(h api.Head) bool { return !plainValid(h) })
	for range 3000 {
		out = append(out, s.head())
	}
	return out
}

// within tells whether low <= x <= high, as numbers without bound.
func within(x *big.Int, low, high uint64) bool {
	return x.Cmp(new(big.Int).SetUint64(low)) >= 0 && x.Cmp(new(big.Int).SetUint64(high)) <= 0
}

func plainValid(h api.Head) bool {
	return within(big.NewInt(int64(h.Type)), 1, 3) &&
		within(big.NewInt(int64(h.Link)), 1, maxLink) &&
		within(big.NewInt(int64(h.Gen)), 1, maxGen) &&
		within(new(big.Int).SetUint64(h.Counter), 0, maxCounter)
}

// plainHead are the 20 bytes of the numbers of a head, right ones or not.
func plainHead(h api.Head) []byte {
	b := make([]byte, 20)
	b[0] = byte(h.Type)
	binary.BigEndian.PutUint32(b[4:], uint32(h.Link))
	binary.BigEndian.PutUint32(b[8:], uint32(h.Gen))
	binary.BigEndian.PutUint64(b[12:], h.Counter)
	return b
}

// plainLengths tells whether a packet of a type may have n bytes.
func plainLengths(kind, n int) bool {
	return kind != 3 && n == 48 || kind == 3 && n >= 45 && n <= 1316
}

func plainGetHead(b []byte) (api.Head, api.Errno) {
	if len(b) < 20 || !bytes.Equal(b[1:4], []byte{0, 0, 0}) {
		return api.Head{}, api.ErrPacketForm
	}
	h := head(int(b[0]), int(binary.BigEndian.Uint32(b[4:])), int(binary.BigEndian.Uint32(b[8:])), binary.BigEndian.Uint64(b[12:]))
	if !plainValid(h) || !plainLengths(h.Type, len(b)) {
		return api.Head{}, api.ErrPacketForm
	}
	return h, api.OK
}

// plainNonce is the number of a triple, written out in twelve bytes.
func plainNonce(side, gen int, counter uint64) []byte {
	number := new(big.Int).Mul(big.NewInt(int64(side)), big.NewInt(1<<31))
	number.Add(number, big.NewInt(int64(gen)))
	number.Lsh(number, 64)
	number.Add(number, new(big.Int).SetUint64(counter))
	return number.FillBytes(make([]byte, 12))
}

// plainGCM is the library's GCM.
func plainGCM(key []byte) cipher.AEAD {
	block, err := library.NewCipher(key)
	if err != nil {
		panic(err)
	}
	mode, err := cipher.NewGCM(block)
	if err != nil {
		panic(err)
	}
	return mode
}

// plainSeal makes what would be a packet of any head, side and text, right ones or not.
func plainSeal(key []byte, side int, h api.Head, text []byte) []byte {
	return sealUnder(key, plainNonce(side, h.Gen, h.Counter), plainHead(h), text)
}

// sealUnder seals a text under any bytes, and stands it behind them.
func sealUnder(key, nonce, first, text []byte) []byte {
	return plainGCM(key).Seal(bytes.Clone(first), nonce, text, first)
}

func plainAddr(a api.Addr) netip.Addr {
	if a.Family == 4 {
		return netip.AddrFrom4([4]byte(binary.BigEndian.AppendUint32(nil, uint32(a.Lo))))
	}
	return netip.AddrFrom16([16]byte(binary.BigEndian.AppendUint64(binary.BigEndian.AppendUint64(nil, a.Hi), a.Lo)))
}

func addrOf(a netip.Addr) api.Addr {
	b := a.AsSlice()
	if len(b) == 4 {
		return addr4(uint64(binary.BigEndian.Uint32(b)))
	}
	return addr6(binary.BigEndian.Uint64(b), binary.BigEndian.Uint64(b[8:]))
}

// plainPayload are the bytes of a payload that is one but for its length.
func plainPayload(p api.Payload) []byte {
	return slices.Concat([]byte{byte(p.Src.Family)}, plainAddr(p.Src).AsSlice(), plainAddr(p.Dst).AsSlice(), p.Body)
}

func plainGetPayload(b []byte) (api.Payload, api.Errno) {
	n := 0
	if len(b) > 0 {
		n = addrLength(int(b[0]))
	}
	if n == 0 || len(b) < 2*n+1 || len(b) > mtu {
		return api.Payload{}, api.ErrPacketForm
	}
	src, _ := netip.AddrFromSlice(b[1 : 1+n])
	dst, _ := netip.AddrFromSlice(b[1+n : 1+2*n])
	return api.Payload{Src: addrOf(src), Dst: addrOf(dst), Body: bytes.Clone(b[1+2*n:])}, api.OK
}
