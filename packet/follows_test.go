package packet_test

import (
	"bytes"
	"testing"

	"culvert/api"
	"culvert/packet"
)

// P9.9: a head that was put is got back, whatever is sealed behind it.
func TestGetHeadOfPutHead(t *testing.T) {
	s := newSampler(5)
	for _, h := range sampleHeads(6) {
		b, e := packet.PutHead(h)
		if e != api.OK || len(b) != 20 {
			t.Fatalf("PutHead(%+v): %d bytes, %d", h, len(b), e)
		}
		wantGetHead(t, append(b, s.list(rightLength(h.Type))...), h, api.OK)
	}
}

// roughPacket are bytes that have the form often enough: numbers and lengths at their bounds.
func (s sampler) roughPacket() []byte {
	b := plainHead(s.head())
	if s.IntN(3) == 0 {
		b[0] = byte(s.IntN(6))
	}
	if s.IntN(4) == 0 {
		b[s.IntN(20)] ^= byte(1 << s.IntN(8))
	}
	return append(b, s.list([]int{28, 28, 27, 29, 24, 25, 1296, 1297, 100, 0}[s.IntN(10)])...)
}

// P9.9: whatever head GetHead takes, its bytes are those that were read; and it takes all that the plain words take.
func TestPutHeadOfGetHead(t *testing.T) {
	s := newSampler(7)
	took := map[int]int{}
	for range 20000 {
		b := s.roughPacket()
		want, wantErr := plainGetHead(b)
		wantGetHead(t, b, want, wantErr)
		if h, e := packet.GetHead(b); e == api.OK {
			took[h.Type]++
			wantPutHead(t, h, b[:20])
		}
	}
	for _, kind := range kinds {
		if took[kind] < 100 {
			t.Errorf("%d packets of the type %d were taken", took[kind], kind)
		}
	}
}

// P9.9: unlike heads have unlike bytes.
func TestUnlikeHeads(t *testing.T) {
	of := map[string]api.Head{}
	for _, h := range sampleHeads(8) {
		b, _ := packet.PutHead(h)
		if other, twice := of[string(b)]; twice && other != h {
			t.Errorf("%+v and %+v have the bytes %x", h, other, b)
		}
		of[string(b)] = h
	}
}

type triple struct {
	side, gen int
	counter   uint64
}

// P9.9: unlike triples make unlike nonces: all edges with each other, those of both sides too, and samples.
func TestUnlikeNonces(t *testing.T) {
	var triples []triple
	gens := []int{1, 2, 3, 255, 256, 257, 1 << 16, 1 << 24, 1 << 30, maxGen - 1, maxGen}
	for _, gen := range gens {
		for _, counter := range edgeCounters() {
			if counter <= maxCounter {
				triples = append(triples, triple{0, gen, counter}, triple{1, gen, counter})
			}
		}
	}
	s := newSampler(9)
	for range 20000 {
		triples = append(triples, triple{s.IntN(2), s.gen(), s.counter()})
	}
	of := map[string]triple{}
	for _, x := range triples {
		nonce := packet.Nonce(x.side, x.gen, x.counter)
		if len(nonce) != 12 {
			t.Fatalf("Nonce(%+v) has %d bytes", x, len(nonce))
		}
		if other, twice := of[string(nonce)]; twice && other != x {
			t.Errorf("%+v and %+v have the nonce %x", x, other, nonce)
		}
		of[string(nonce)] = x
	}
}

// P9.9: triples one bit apart, in each bit of each number.
func TestNoncesOfNearTriples(t *testing.T) {
	s := newSampler(10)
	for range 300 {
		side, gen, counter := s.IntN(2), s.gen(), s.counter()
		nonce := packet.Nonce(side, gen, counter)
		for i := range 31 {
			if near := gen ^ 1<<i; near > 0 && bytes.Equal(packet.Nonce(side, near, counter), nonce) {
				t.Errorf("the generations %d and %d have the nonce %x", gen, near, nonce)
			}
		}
		for i := range 64 {
			if near := counter ^ 1<<i; near <= maxCounter && bytes.Equal(packet.Nonce(side, gen, near), nonce) {
				t.Errorf("the counters %d and %d have the nonce %x", counter, near, nonce)
			}
		}
	}
}

// P9.9: a nonce tells its side by its first bit, so none is of both sides.
func TestNoncesOfBothSides(t *testing.T) {
	s := newSampler(11)
	for range 20000 {
		for side := range 2 {
			if nonce := packet.Nonce(side, s.gen(), s.counter()); int(nonce[0]>>7) != side {
				t.Errorf("a nonce of the side %d: %x", side, nonce)
			}
		}
	}
}

// P9.9: what was sealed opens under the same key and side; under the other side it has another nonce, and does not open.
func TestOpenOfSeal(t *testing.T) {
	s := newSampler(12)
	for range 500 {
		key, side, p := s.list(32), s.IntN(2), s.packet()
		b := mustSeal(t, key, side, p)
		if len(b) != 36+len(p.Text) {
			t.Errorf("a text of %d bytes has become %d", len(p.Text), len(b))
		}
		wantOpen(t, key, side, b, p)
		wantGetHead(t, b, p.Head, api.OK)
		if bytes.Equal(packet.Nonce(side, p.Head.Gen, p.Head.Counter), packet.Nonce(1-side, p.Head.Gen, p.Head.Counter)) {
			t.Errorf("%+v has one nonce under both sides", p.Head)
		}
		wantNoOpen(t, "the other side", key, 1-side, b)
	}
}

// P9.9: what opens, sealed again, is the same bytes, also where the package did not seal it.
func TestSealOfOpen(t *testing.T) {
	s := newSampler(13)
	for range 500 {
		key, side, p := s.list(32), s.IntN(2), s.packet()
		b := plainSeal(key, side, p.Head, p.Text)
		got, ok := packet.Open(key, side, b)
		if !ok {
			t.Fatalf("Open of %+v with %d bytes: false", p.Head, len(p.Text))
		}
		wantSeal(t, key, side, got, b)
	}
}

// P9.9: payloads there and back.
func TestGetPayloadOfPutPayload(t *testing.T) {
	s := newSampler(14)
	for range 5000 {
		p := s.payload()
		b, e := packet.PutPayload(p)
		if e != api.OK {
			t.Fatalf("PutPayload(%v, %v, %d bytes): %d", p.Src, p.Dst, len(p.Body), e)
		}
		wantPutPayload(t, p, plainPayload(p))
		wantGetPayload(t, b, p, api.OK)
	}
}

// P9.9: and back and there: whatever bytes GetPayload takes are those of its answer, and it takes all that the plain words take.
func TestPutPayloadOfGetPayload(t *testing.T) {
	s := newSampler(15)
	took := map[int]int{}
	for range 20000 {
		b := s.list([]int{0, 1, 8, 9, 10, 32, 33, 34, 100, mtu - 1, mtu, mtu + 1}[s.IntN(12)])
		if len(b) > 0 {
			b[0] = []byte{4, 6, 4, 6, 5, byte(s.Uint32())}[s.IntN(6)]
		}
		want, wantErr := plainGetPayload(b)
		wantGetPayload(t, b, want, wantErr)
		if p, e := packet.GetPayload(b); e == api.OK {
			took[p.Src.Family]++
			wantPutPayload(t, p, b)
		}
	}
	if took[4] < 100 || took[6] < 100 {
		t.Errorf("taken: %d payloads of the family 4, %d of the family 6", took[4], took[6])
	}
}

// P9.9: unlike payloads have unlike bytes: also where one's body ends as the other's addresses do.
func TestUnlikePayloads(t *testing.T) {
	of := map[string]api.Payload{}
	for _, family := range []int{4, 6} {
		for _, src := range edgeAddrs(family) {
			for _, dst := range edgeAddrs(family) {
				for _, body := range []string{"", "\x00", "\x00\x00\x00\x00", "\x00\x00\x00\x01", "\xFF\xFF\xFF\xFF", "\x04", "\x06"} {
					p := payload(src, dst, []byte(body))
					b, _ := packet.PutPayload(p)
					if other, twice := of[string(b)]; twice {
						t.Errorf("%v and %v have the bytes %x", p, other, b)
					}
					of[string(b)] = p
				}
			}
		}
	}
}

// P9.4, P9.6: the greatest payload of each family is a text that data may have, and so is the least.
func TestPayloadsTravel(t *testing.T) {
	for _, x := range []struct{ family, most int }{{4, 1271}, {6, 1247}} {
		for _, n := range []int{0, 1, x.most} {
			p := payload(edgeAddrs(x.family)[0], edgeAddrs(x.family)[1], counted(1, 3, n))
			text, _ := packet.PutPayload(p)
			b := mustSeal(t, someKey(), 1, api.Packet{Head: head(api.PkData, 7, 1, 0), Text: text})
			got, ok := packet.Open(someKey(), 1, b)
			if !ok {
				t.Fatalf("a payload of %d bytes does not open", len(text))
			}
			wantGetPayload(t, got.Text, p, api.OK)
		}
	}
}
