package packet_test

import (
	"bytes"
	"math"
	"slices"
	"testing"

	"culvert/api"
	"culvert/gcm"
	"culvert/packet"
)

func mustSeal(t *testing.T, key []byte, side int, p api.Packet) []byte {
	t.Helper()
	b, e := packet.Seal(key, side, p)
	if e != api.OK {
		t.Fatalf("Seal of %+v with %d bytes: %d, want OK", p.Head, len(p.Text), e)
	}
	return b
}

func wantSeal(t *testing.T, key []byte, side int, p api.Packet, want []byte) {
	t.Helper()
	if got, e := packet.Seal(key, side, p); !bytes.Equal(got, want) || e != api.OK {
		t.Errorf("Seal(side %d, %+v, %d bytes) = %s, %d, want %s, OK", side, p.Head, len(p.Text), brief(got), e, brief(want))
	}
}

func wantNoSeal(t *testing.T, key []byte, side int, p api.Packet, want api.Errno) {
	t.Helper()
	if got, e := packet.Seal(key, side, p); len(got) != 0 || e != want {
		t.Errorf("Seal(key of %d, side %d, %+v, %d bytes) = %s, %d, want none, %d", len(key), side, p.Head, len(p.Text), brief(got), e, want)
	}
}

func wantOpen(t *testing.T, key []byte, side int, b []byte, want api.Packet) {
	t.Helper()
	if got, ok := packet.Open(key, side, b); !ok || got.Head != want.Head || !bytes.Equal(got.Text, want.Text) {
		t.Errorf("Open(side %d, %s) = %+v, %s, %v, want %+v, %s, true", side, brief(b), got.Head, brief(got.Text), ok, want.Head, brief(want.Text))
	}
}

// wantNoOpen: the zero packet and false.
func wantNoOpen(t *testing.T, what string, key []byte, side int, b []byte) {
	t.Helper()
	if got, ok := packet.Open(key, side, b); ok || got.Head != (api.Head{}) || len(got.Text) != 0 {
		t.Errorf("Open, %s: %+v, %s, %v, want the zero packet and false", what, got.Head, brief(got.Text), ok)
	}
}

// packetWith has a text of n bytes.
func packetWith(kind, n int) api.Packet {
	return api.Packet{Head: head(kind, 7, 1, 258), Text: counted(11, 3, n)}
}

// someOfEach are packets of each type, with the least and the greatest texts.
func someOfEach() []api.Packet {
	return []api.Packet{packetWith(1, 12), packetWith(2, 12), packetWith(3, 9), packetWith(3, 12), packetWith(3, 40), packetWith(3, mtu)}
}

// P9.4: the head's bytes, and what gcm seals under them.
func TestSealIsHeadAndSealedText(t *testing.T) {
	for _, p := range someOfEach() {
		for side := range 2 {
			first, _ := packet.PutHead(p.Head)
			sealed, _ := gcm.Seal(someKey(), packet.Nonce(side, p.Head.Gen, p.Head.Counter), first, p.Text)
			want := slices.Concat(first, sealed)
			wantSeal(t, someKey(), side, p, want)
			if len(want) != 20+len(p.Text)+16 {
				t.Errorf("a text of %d bytes has become %d", len(p.Text), len(want))
			}
		}
	}
}

// P9.4: the same bytes by the library alone, at the edges of heads, and at samples of all.
func TestSealAsTheLibrarySeals(t *testing.T) {
	for _, p := range someOfEach() {
		for _, h := range []api.Head{head(p.Head.Type, 1, 1, 0), head(p.Head.Type, maxLink, maxGen, maxCounter)} {
			for side := range 2 {
				p.Head = h
				wantSeal(t, someKey(), side, p, plainSeal(someKey(), side, h, p.Text))
			}
		}
	}
	s := newSampler(4)
	for range 500 {
		key, side, p := s.list(32), s.IntN(2), s.packet()
		wantSeal(t, key, side, p, plainSeal(key, side, p.Head, p.Text))
	}
}

// P9.4: the key is judged ahead of all else.
func TestSealUnderNoKey(t *testing.T) {
	for _, n := range []int{0, 1, 16, 24, 31, 33, 48, 64, 1000} {
		for _, p := range []api.Packet{packetWith(1, 12), packetWith(3, 40), packetWith(1, 11), packetWith(3, mtu+1), packetWith(4, 12), {}} {
			for _, side := range []int{-1, 0, 1, 2} {
				wantNoSeal(t, make([]byte, n), side, p, api.ErrCipherKey)
			}
		}
	}
	wantNoSeal(t, nil, 0, packetWith(1, 12), api.ErrCipherKey)
	wantNoSeal(t, someKey()[:31], 0, packetWith(1, 12), api.ErrCipherKey)
}

// P9.4: a side that is none.
func TestSealOfNoSide(t *testing.T) {
	for _, p := range someOfEach() {
		for _, side := range []int{-1, 2, 3, 256, 257, 1 << 32, 1<<32 + 1, math.MinInt, math.MinInt + 1, math.MaxInt} {
			wantNoSeal(t, someKey(), side, p, api.ErrPacketForm)
		}
	}
}

// P9.4: a head that is none, with a text that each type would have.
func TestSealOfNoHead(t *testing.T) {
	for _, h := range edgeHeads() {
		if plainValid(h) {
			continue
		}
		for _, n := range []int{0, 12, 40} {
			wantNoSeal(t, someKey(), 0, api.Packet{Head: h, Text: make([]byte, n)}, api.ErrPacketForm)
		}
	}
}

// P9.4: how long the text of each type is, at all lengths around the bounds.
func TestSealOfAllLengths(t *testing.T) {
	for _, kind := range kinds {
		for n := range 40 {
			if kind != 3 && n == 12 || kind == 3 && n >= 9 {
				mustSeal(t, someKey(), 1, packetWith(kind, n))
			} else {
				wantNoSeal(t, someKey(), 1, packetWith(kind, n), api.ErrPacketForm)
			}
		}
		for _, n := range []int{mtu - 1, mtu, mtu + 1, mtu + 36, api.MaxText, api.MaxText + 1, 1 << 20} {
			if kind == 3 && n <= mtu {
				mustSeal(t, someKey(), 1, packetWith(kind, n))
			} else {
				wantNoSeal(t, someKey(), 1, packetWith(kind, n), api.ErrPacketForm)
			}
		}
		wantNoSeal(t, someKey(), 1, api.Packet{Head: head(kind, 7, 1, 0)}, api.ErrPacketForm)
	}
}

// P9.4: any bytes are a text, those of no payload and of no stamp too.
func TestSealLooksAtNoText(t *testing.T) {
	for _, kind := range kinds {
		for _, x := range []byte{0, 4, 5, 0x80, 0xFF} {
			p := packetWith(kind, 12)
			p.Text = bytes.Repeat([]byte{x}, 12)
			wantSeal(t, someKey(), 0, p, plainSeal(someKey(), 0, p.Head, p.Text))
			wantOpen(t, someKey(), 0, plainSeal(someKey(), 0, p.Head, p.Text), p)
		}
	}
}

// P9.5: what was sealed, by the library too, under the same key and side.
func TestOpen(t *testing.T) {
	for _, p := range someOfEach() {
		for side := range 2 {
			wantOpen(t, someKey(), side, mustSeal(t, someKey(), side, p), p)
			wantOpen(t, someKey(), side, plainSeal(someKey(), side, p.Head, p.Text), p)
		}
	}
}

// P9.5: under the other side, under no side and under other keys it does not open.
func TestOpenUnderAnother(t *testing.T) {
	for _, p := range someOfEach() {
		for side := range 2 {
			b := mustSeal(t, someKey(), side, p)
			for _, other := range []int{1 - side, -1, 2, 3, side + 2, side - 2, side + 1<<32, math.MinInt + side, math.MaxInt} {
				wantNoOpen(t, "another side", someKey(), other, b)
			}
			wantNoOpen(t, "another key", otherKey(), side, b)
			for _, n := range []int{0, 16, 31} {
				wantNoOpen(t, "a key cut off", someKey()[:n], side, b)
			}
			wantNoOpen(t, "no key", nil, side, b)
			wantNoOpen(t, "a longer key", append(someKey(), 0), side, b)
			wantNoOpen(t, "a longer key", append(someKey(), someKey()...), side, b)
		}
	}
}

// P9.5: keys with one bit turned.
func TestOpenUnderANearKey(t *testing.T) {
	b := mustSeal(t, someKey(), 0, packetWith(1, 12))
	for i := range 32 {
		key := someKey()
		key[i] ^= 1 << (i % 8)
		wantNoOpen(t, "a near key", key, 0, b)
	}
}

// P9.5: every bit of a packet turned, in the head, the text and the tag.
func TestOpenWithABitTurned(t *testing.T) {
	for _, p := range []api.Packet{packetWith(1, 12), packetWith(2, 12), packetWith(3, 9), packetWith(3, 12)} {
		b := mustSeal(t, someKey(), 1, p)
		for i := range 8 * len(b) {
			near := bytes.Clone(b)
			near[i/8] ^= 1 << (i % 8)
			wantNoOpen(t, "a bit turned", someKey(), 1, near)
		}
	}
}

// P9.5: every byte of a head turned into each other one.
func TestOpenWithAHeadTurned(t *testing.T) {
	b := mustSeal(t, someKey(), 0, packetWith(3, 12)) // of a length that all types have
	for i := range 20 {
		for x := range 256 {
			near := bytes.Clone(b)
			near[i] = byte(x)
			if near[i] != b[i] {
				wantNoOpen(t, "a byte turned", someKey(), 0, near)
			}
		}
	}
}

// P9.5: every byte of a long packet turned.
func TestOpenOfALongPacketTurned(t *testing.T) {
	b := mustSeal(t, someKey(), 0, packetWith(3, mtu))
	for i := range b {
		near := bytes.Clone(b)
		near[i] ^= byte(1 + i%255)
		wantNoOpen(t, "a byte turned", someKey(), 0, near)
	}
}

// P9.5: a packet cut off anywhere, at both ends, and one with bytes more.
func TestOpenOfOtherLengths(t *testing.T) {
	for _, p := range []api.Packet{packetWith(1, 12), packetWith(2, 12), packetWith(3, 9), packetWith(3, 60)} {
		b := mustSeal(t, someKey(), 0, p)
		for n := range len(b) {
			wantNoOpen(t, "cut off", someKey(), 0, b[:n])
			wantNoOpen(t, "cut off", someKey(), 0, bytes.Clone(b[:n]))
			wantNoOpen(t, "its beginning cut off", someKey(), 0, b[n+1:])
		}
		wantNoOpen(t, "a byte more", someKey(), 0, append(bytes.Clone(b), 0))
		wantNoOpen(t, "a byte ahead", someKey(), 0, append([]byte{0}, b...))
		wantNoOpen(t, "twice", someKey(), 0, append(bytes.Clone(b), b...))
	}
	b := mustSeal(t, someKey(), 0, packetWith(3, mtu))
	wantNoOpen(t, "a byte more", someKey(), 0, append(bytes.Clone(b), 0))
	wantNoOpen(t, "a byte fewer", someKey(), 0, b[:len(b)-1])
	wantNoOpen(t, "very long", someKey(), 0, append(bytes.Clone(b), make([]byte, 1<<20)...))
	wantNoOpen(t, "no bytes", someKey(), 0, nil)
	wantNoOpen(t, "no bytes", someKey(), 0, []byte{})
}

// P9.5: a right tag does not help what GetHead refuses: texts of other lengths.
func TestOpenOfRightTagsOfWrongLengths(t *testing.T) {
	for _, kind := range kinds {
		for _, n := range []int{0, 1, 8, 9, 11, 12, 13, 40, mtu, mtu + 1, mtu + 2, api.MaxText} {
			p := packetWith(kind, n)
			b := plainSeal(someKey(), 0, p.Head, p.Text)
			if kind != 3 && n == 12 || kind == 3 && n >= 9 && n <= mtu {
				wantOpen(t, someKey(), 0, b, p)
			} else {
				wantNoOpen(t, "a text of another length", someKey(), 0, b)
			}
		}
	}
}

// P9.5: nor numbers beyond their bounds, nor bytes that should be 0.
func TestOpenOfRightTagsOfNoHeads(t *testing.T) {
	text := counted(11, 3, 12)
	for _, h := range []api.Head{
		head(0, 7, 1, 0), head(4, 7, 1, 0), head(255, 7, 1, 0), head(1, 0, 1, 0), head(3, 0, 1, 0),
		head(1, 7, 0, 0), head(3, 7, 0, 0), head(1, 7, maxGen+1, 0), head(3, 7, maxLink, 0),
		head(1, 7, 1, math.MaxUint64), head(3, 7, 1, math.MaxUint64),
	} {
		nonce := append(plainHead(h)[8:12:12], plainHead(h)[12:]...)
		wantNoOpen(t, "no head", someKey(), 0, sealUnder(someKey(), nonce, plainHead(h), text))
		nonce[0] ^= 0x80
		wantNoOpen(t, "no head", someKey(), 1, sealUnder(someKey(), nonce, plainHead(h), text))
	}
	for at := 1; at < 4; at++ {
		first := plainHead(head(3, 7, 1, 0))
		first[at] = 1
		wantNoOpen(t, "a byte that should be 0", someKey(), 0, sealUnder(someKey(), plainNonce(0, 1, 0), first, text))
	}
}

// P9.5: nor a text that was sealed under another head, nonce or none.
func TestOpenOfTextsSealedUnderOthers(t *testing.T) {
	p := packetWith(3, 40)
	first, nonce := plainHead(p.Head), plainNonce(0, p.Head.Gen, p.Head.Counter)
	wantOpen(t, someKey(), 0, append(bytes.Clone(first), sealUnder(someKey(), nonce, first, p.Text)[20:]...), p)
	for _, under := range [][]byte{nil, first[:19], append(bytes.Clone(first), 0), plainHead(head(3, 8, 1, 258)), plainHead(head(2, 7, 1, 258))} {
		sealed := sealUnder(someKey(), nonce, under, p.Text)[len(under):]
		wantNoOpen(t, "sealed under another head", someKey(), 0, append(bytes.Clone(first), sealed...))
	}
	for _, under := range [][]byte{plainNonce(1, 1, 258), plainNonce(0, 2, 258), plainNonce(0, 1, 259), make([]byte, 12)} {
		wantNoOpen(t, "sealed under another nonce", someKey(), 0, sealUnder(someKey(), under, first, p.Text))
	}
}
