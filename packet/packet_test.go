package packet_test

import (
	"bytes"
	"encoding/hex"
	"math"
	"strings"
	"testing"

	"culvert/api"
	"culvert/packet"
)

// hexBytes reads bytes that are written out, with any spaces between.
func hexBytes(t *testing.T, text string) []byte {
	t.Helper()
	b, err := hex.DecodeString(strings.Join(strings.Fields(text), ""))
	if err != nil {
		t.Fatalf("%q: %v", text, err)
	}
	return b
}

// brief cuts a long list.
func brief(b []byte) string {
	if len(b) > 80 {
		return hex.EncodeToString(b[:80]) + ".."
	}
	return hex.EncodeToString(b)
}

func wantPutHead(t *testing.T, h api.Head, want []byte) {
	t.Helper()
	if got, e := packet.PutHead(h); !bytes.Equal(got, want) || e != api.OK {
		t.Errorf("PutHead(%+v) = %x, %d, want %x, OK", h, got, e, want)
	}
}

func wantNoHead(t *testing.T, h api.Head) {
	t.Helper()
	if got, e := packet.PutHead(h); len(got) != 0 || e != api.ErrPacketForm {
		t.Errorf("PutHead(%+v) = %x, %d, want none, ErrPacketForm", h, got, e)
	}
}

func wantGetHead(t *testing.T, b []byte, want api.Head, wantErr api.Errno) {
	t.Helper()
	if got, e := packet.GetHead(b); got != want || e != wantErr {
		t.Errorf("GetHead(%s), %d bytes = %+v, %d, want %+v, %d", brief(b), len(b), got, e, want, wantErr)
	}
}

func wantNoHeadIn(t *testing.T, b []byte) {
	t.Helper()
	wantGetHead(t, b, api.Head{}, api.ErrPacketForm)
}

func wantNonce(t *testing.T, side, gen int, counter uint64, want []byte) {
	t.Helper()
	if got := packet.Nonce(side, gen, counter); !bytes.Equal(got, want) {
		t.Errorf("Nonce(%d, %d, %d) = %x, want %x", side, gen, counter, got, want)
	}
}

// The bounds that the tests write out are those of the document's table.
func TestLimits(t *testing.T) {
	if api.MaxLink != maxLink || api.MaxGen != maxGen || api.MaxCounter != maxCounter || api.MTU != mtu || api.KeySize != 32 {
		t.Errorf("MaxLink, MaxGen, MaxCounter, MTU, KeySize = %d, %d, %d, %d, %d", api.MaxLink, api.MaxGen, api.MaxCounter, api.MTU, api.KeySize)
	}
	if api.PkInit != 1 || api.PkReply != 2 || api.PkData != 3 {
		t.Errorf("PkInit, PkReply, PkData = %d, %d, %d", api.PkInit, api.PkReply, api.PkData)
	}
	if api.ErrCipherKey != 40 || api.ErrPacketForm != 90 {
		t.Errorf("ErrCipherKey, ErrPacketForm = %d, %d", api.ErrCipherKey, api.ErrPacketForm)
	}
}

// P9.1: the twenty bytes, each of them at its place.
func TestPutHead(t *testing.T) {
	wantPutHead(t, head(api.PkData, 7, 1, 258), hexBytes(t, "03 000000 00000007 00000001 0000000000000102"))
	wantPutHead(t, head(api.PkInit, 1, 1, 0), hexBytes(t, "01 000000 00000001 00000001 0000000000000000"))
	wantPutHead(t, head(api.PkReply, 0x11121314, 0x21222324, 0x3132333435363738), hexBytes(t, "02 000000 11121314 21222324 3132333435363738"))
	wantPutHead(t, head(api.PkData, maxLink, maxGen, maxCounter), hexBytes(t, "03 000000 ffffffff 7fffffff fffffffffffffffe"))
	wantPutHead(t, head(api.PkInit, 1<<31, 1<<30, 1<<63), hexBytes(t, "01 000000 80000000 40000000 8000000000000000"))
	wantPutHead(t, head(api.PkData, 256, 256, 256), hexBytes(t, "03 000000 00000100 00000100 0000000000000100"))
}

// P9.1: each number alone at its bounds and beyond them.
func TestPutHeadAtTheBounds(t *testing.T) {
	for _, x := range []struct {
		h    api.Head
		want bool
	}{
		{head(1, 7, 1, 0), true}, {head(2, 7, 1, 0), true}, {head(3, 7, 1, 0), true},
		{head(0, 7, 1, 0), false}, {head(4, 7, 1, 0), false}, {head(-1, 7, 1, 0), false}, {head(255, 7, 1, 0), false},
		{head(256, 7, 1, 0), false}, {head(257, 7, 1, 0), false}, {head(259, 7, 1, 0), false}, {head(1-256, 7, 1, 0), false},
		{head(math.MinInt, 7, 1, 0), false}, {head(math.MaxInt, 7, 1, 0), false}, {head(math.MinInt+1, 7, 1, 0), false},
		{head(3, 1, 1, 0), true}, {head(3, maxLink, 1, 0), true}, {head(3, maxLink-1, 1, 0), true},
		{head(3, 0, 1, 0), false}, {head(3, maxLink+1, 1, 0), false}, {head(3, maxLink+2, 1, 0), false}, {head(3, -1, 1, 0), false},
		{head(3, 7-1<<32, 1, 0), false}, {head(3, 7+1<<40, 1, 0), false}, {head(3, math.MinInt, 1, 0), false}, {head(3, math.MaxInt, 1, 0), false},
		{head(3, 7, 2, 0), true}, {head(3, 7, maxGen, 0), true}, {head(3, 7, maxGen-1, 0), true},
		{head(3, 7, 0, 0), false}, {head(3, 7, maxGen+1, 0), false}, {head(3, 7, maxGen+2, 0), false}, {head(3, 7, -1, 0), false},
		{head(3, 7, maxLink, 0), false}, {head(3, 7, 1<<32+1, 0), false}, {head(3, 7, math.MinInt, 0), false}, {head(3, 7, math.MaxInt, 0), false},
		{head(3, 7, 1, 1), true}, {head(3, 7, 1, maxCounter-1), true}, {head(3, 7, 1, maxCounter), true},
		{head(3, 7, 1, maxCounter+1), false}, {head(1, 7, 1, math.MaxUint64), false}, {head(2, 7, 1, math.MaxUint64), false},
		{head(0, 0, 0, 0), false}, {head(4, 0, 0, math.MaxUint64), false},
	} {
		if x.want {
			wantPutHead(t, x.h, plainHead(x.h))
		} else {
			wantNoHead(t, x.h)
		}
	}
}

// P9.1: all edges, and samples, against the library's numbers.
func TestPutHeadOfAllEdges(t *testing.T) {
	for _, h := range edgeHeads() {
		if plainValid(h) {
			wantPutHead(t, h, plainHead(h))
		} else {
			wantNoHead(t, h)
		}
	}
	for _, h := range sampleHeads(1) {
		wantPutHead(t, h, plainHead(h))
	}
}

// packetOf is a head's bytes and n bytes behind them that nobody has sealed.
func packetOf(h api.Head, n int) []byte {
	return append(plainHead(h), counted(9, 5, n)...)
}

// rightLength is how many bytes may stand behind a head of a type.
func rightLength(kind int) int {
	if kind == api.PkData {
		return 100
	}
	return 28
}

// P9.2: the numbers of the head, of each type.
func TestGetHead(t *testing.T) {
	for _, kind := range kinds {
		for _, h := range []api.Head{head(kind, 7, 1, 258), head(kind, 1, 1, 0), head(kind, maxLink, maxGen, maxCounter), head(kind, 0x11121314, 0x21222324, 0x3132333435363738)} {
			wantGetHead(t, packetOf(h, rightLength(kind)), h, api.OK)
		}
	}
}

// P9.2: for each type, all lengths around the right ones; the head alone, and cut off.
func TestGetHeadOfAllLengths(t *testing.T) {
	for _, kind := range kinds {
		h := head(kind, 7, 1, 258)
		all := packetOf(h, 1400)
		for n := range len(all) + 1 {
			if plainLengths(kind, n) {
				wantGetHead(t, all[:n], h, api.OK)
				wantGetHead(t, bytes.Clone(all[:n]), h, api.OK)
			} else {
				wantNoHeadIn(t, all[:n])
				wantNoHeadIn(t, bytes.Clone(all[:n]))
			}
		}
		wantNoHeadIn(t, packetOf(h, 1<<20))
	}
	wantNoHeadIn(t, nil)
	wantNoHeadIn(t, []byte{})
}

// P9.2: the lengths that the document names.
func TestGetHeadOfNamedLengths(t *testing.T) {
	for _, x := range []struct {
		kind, behind int
		want         bool
	}{
		{1, 28, true}, {1, 27, false}, {1, 29, false}, {2, 28, true}, {2, 27, false}, {2, 29, false}, {1, 0, false}, {1, 12, false},
		{1, 25, false}, {2, 100, false}, {3, 24, false}, {3, 25, true}, {3, 28, true}, {3, 1296, true}, {3, 1297, false}, {3, 0, false},
	} {
		h := head(x.kind, 7, 1, 0)
		if x.want {
			wantGetHead(t, packetOf(h, x.behind), h, api.OK)
		} else {
			wantNoHeadIn(t, packetOf(h, x.behind))
		}
	}
}

// P9.2: each of the three bytes that are 0 turned into each other one.
func TestGetHeadWithZerosTurned(t *testing.T) {
	for _, kind := range kinds {
		for at := 1; at < 4; at++ {
			for x := 1; x < 256; x++ {
				b := packetOf(head(kind, 7, 1, 0), rightLength(kind))
				b[at] = byte(x)
				wantNoHeadIn(t, b)
			}
		}
	}
}

// P9.2: each number just within its bounds and just without.
func TestGetHeadAtTheBounds(t *testing.T) {
	for _, x := range []struct {
		first string
		want  api.Head
	}{
		{"01 000000 00000001 00000001 0000000000000000", head(1, 1, 1, 0)},
		{"03 000000 00000007 00000001 0000000000000102", head(3, 7, 1, 258)},
		{"00 000000 00000007 00000001 0000000000000000", api.Head{}},
		{"04 000000 00000007 00000001 0000000000000000", api.Head{}},
		{"ff 000000 00000007 00000001 0000000000000000", api.Head{}},
		{"81 000000 00000007 00000001 0000000000000000", api.Head{}},
		{"03 000000 ffffffff 00000001 0000000000000000", head(3, maxLink, 1, 0)},
		{"03 000000 80000000 00000001 0000000000000000", head(3, 1<<31, 1, 0)},
		{"03 000000 00000000 00000001 0000000000000000", api.Head{}},
		{"03 000000 00000007 7fffffff 0000000000000000", head(3, 7, maxGen, 0)},
		{"03 000000 00000007 00000000 0000000000000000", api.Head{}},
		{"03 000000 00000007 80000000 0000000000000000", api.Head{}},
		{"03 000000 00000007 80000001 0000000000000000", api.Head{}},
		{"03 000000 00000007 ffffffff 0000000000000000", api.Head{}},
		{"03 000000 00000007 00000001 fffffffffffffffe", head(3, 7, 1, maxCounter)},
		{"03 000000 00000007 00000001 fffffffffffffffd", head(3, 7, 1, maxCounter-1)},
		{"03 000000 00000007 00000001 ffffffffffffffff", api.Head{}},
		{"03 000000 00000000 00000000 ffffffffffffffff", api.Head{}},
	} {
		// 28 bytes behind the head are right for every type.
		b := append(hexBytes(t, x.first), counted(1, 1, 28)...)
		if x.want == (api.Head{}) {
			wantNoHeadIn(t, b)
		} else {
			wantGetHead(t, b, x.want, api.OK)
		}
	}
}

// P9.2: each byte of some heads turned into each other one.
func TestGetHeadOfNearBytes(t *testing.T) {
	for _, h := range []api.Head{head(1, 1, 1, 0), head(2, 256, 256, 256), head(3, maxLink, maxGen, maxCounter), head(3, 7, 1<<24, 1<<56)} {
		b := packetOf(h, 28)
		for at := range 20 {
			for x := range 256 {
				near := bytes.Clone(b)
				near[at] = byte(x)
				want, e := plainGetHead(near)
				wantGetHead(t, near, want, e)
			}
		}
	}
}

// P9.2: what is sealed is not looked at.
func TestGetHeadLooksAtTheHeadAlone(t *testing.T) {
	s := newSampler(2)
	for _, kind := range kinds {
		h := head(kind, 7, 1, 258)
		n := rightLength(kind)
		for _, behind := range [][]byte{make([]byte, n), bytes.Repeat([]byte{0xFF}, n), s.list(n), s.list(n)} {
			wantGetHead(t, append(plainHead(h), behind...), h, api.OK)
		}
	}
}

// P9.2: a head that does not begin the bytes is none.
func TestGetHeadAtAnotherPlace(t *testing.T) {
	for _, kind := range kinds {
		b := packetOf(head(kind, 7, 1, 258), rightLength(kind)-1)
		wantNoHeadIn(t, append([]byte{0}, b...))
		wantNoHeadIn(t, append([]byte{9}, b...))
		wantNoHeadIn(t, packetOf(head(kind, 7, 1, 258), rightLength(kind))[1:])
	}
}

// P9.3: side and generation in four bytes, the counter in eight.
func TestNonce(t *testing.T) {
	wantNonce(t, 0, 1, 0, hexBytes(t, "00000001 0000000000000000"))
	wantNonce(t, 1, 1, 258, hexBytes(t, "80000001 0000000000000102"))
	wantNonce(t, 0, 0x11121314, 0x2122232425262728, hexBytes(t, "11121314 2122232425262728"))
	wantNonce(t, 1, 0x11121314, 0x2122232425262728, hexBytes(t, "91121314 2122232425262728"))
	wantNonce(t, 0, maxGen, maxCounter, hexBytes(t, "7fffffff fffffffffffffffe"))
	wantNonce(t, 1, maxGen, maxCounter, hexBytes(t, "ffffffff fffffffffffffffe"))
	wantNonce(t, 0, 256, 1<<63, hexBytes(t, "00000100 8000000000000000"))
	wantNonce(t, 1, 1<<30, 1<<32, hexBytes(t, "c0000000 0000000100000000"))
}

// P9.3: none, where one of the three is beyond its bounds, whatever the others are.
func TestNoNonce(t *testing.T) {
	for _, side := range []int{-1, 0, 1, 2, 3, -1 << 31, 1 << 32, 1<<32 + 1, math.MinInt, math.MinInt + 1, math.MaxInt} {
		for _, gen := range []int{0, 1, 2, maxGen, maxGen + 1, -1, 1<<32 + 1, 1 << 32, math.MinInt, math.MinInt + 1, math.MaxInt} {
			for _, counter := range []uint64{0, 1, maxCounter - 1, maxCounter, maxCounter + 1} {
				var want []byte
				if (side == 0 || side == 1) && plainValid(head(1, 1, gen, counter)) {
					want = plainNonce(side, gen, counter)
				}
				wantNonce(t, side, gen, counter, want)
			}
		}
	}
}

// P9.3: edges and samples, against great numbers.
func TestNonceOfSamples(t *testing.T) {
	for _, h := range sampleHeads(3) {
		for side := range 2 {
			wantNonce(t, side, h.Gen, h.Counter, plainNonce(side, h.Gen, h.Counter))
		}
	}
}
