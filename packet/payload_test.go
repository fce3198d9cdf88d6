package packet_test

import (
	"bytes"
	"math"
	"testing"

	"culvert/api"
	"culvert/packet"
)

func payload(src, dst api.Addr, body []byte) api.Payload {
	return api.Payload{Src: src, Dst: dst, Body: body}
}

func wantPutPayload(t *testing.T, p api.Payload, want []byte) {
	t.Helper()
	if got, e := packet.PutPayload(p); !bytes.Equal(got, want) || e != api.OK {
		t.Errorf("PutPayload(%v, %v, %d bytes) = %s, %d, want %s, OK", p.Src, p.Dst, len(p.Body), brief(got), e, brief(want))
	}
}

func wantNoPayload(t *testing.T, p api.Payload) {
	t.Helper()
	if got, e := packet.PutPayload(p); len(got) != 0 || e != api.ErrPacketForm {
		t.Errorf("PutPayload(%v, %v, %d bytes) = %s, %d, want none, ErrPacketForm", p.Src, p.Dst, len(p.Body), brief(got), e)
	}
}

func wantGetPayload(t *testing.T, b []byte, want api.Payload, wantErr api.Errno) {
	t.Helper()
	got, e := packet.GetPayload(b)
	if got.Src != want.Src || got.Dst != want.Dst || !bytes.Equal(got.Body, want.Body) || e != wantErr {
		t.Errorf("GetPayload(%s), %d bytes = %v, %v, %s, %d, want %v, %v, %s, %d",
			brief(b), len(b), got.Src, got.Dst, brief(got.Body), e, want.Src, want.Dst, brief(want.Body), wantErr)
	}
}

func wantNoPayloadIn(t *testing.T, b []byte) {
	t.Helper()
	wantGetPayload(t, b, api.Payload{}, api.ErrPacketForm)
}

// edgeAddrs are addresses of a family at the bounds of their numbers.
func edgeAddrs(family int) []api.Addr {
	if family == 4 {
		return []api.Addr{addr4(0), addr4(1), addr4(0x0A000001), addr4(1 << 31), addr4(math.MaxUint32 - 1), addr4(math.MaxUint32)}
	}
	return []api.Addr{
		addr6(0, 0), addr6(0, 1), addr6(1, 0), addr6(0, math.MaxUint32), addr6(0, math.MaxUint64), addr6(math.MaxUint64, 0),
		addr6(math.MaxUint64, math.MaxUint64), addr6(0x2001_0DB8_0000_0000, 1), addr6(1<<63, 1<<63),
	}
}

// noAddrs are no addresses.
func noAddrs() []api.Addr {
	return []api.Addr{
		{}, addr4(1 << 32), addr4(math.MaxUint64), {Family: 4, Hi: 1}, {Family: 4, Hi: 1 << 63, Lo: 1},
		{Family: 5}, {Family: 3}, {Family: 7}, {Family: 0, Lo: 1}, {Family: -4}, {Family: -6}, {Family: 260}, {Family: 262},
		{Family: 4 - 256}, {Family: 4 + 1<<32}, {Family: math.MinInt}, {Family: math.MaxInt}, {Family: math.MinInt + 4},
	}
}

// P9.6: the family, both addresses, the body, each byte at its place.
func TestPutPayload(t *testing.T) {
	wantPutPayload(t, payload(addr4(0x0A000001), addr4(0x0A000002), []byte("hi")), hexBytes(t, "04 0a000001 0a000002 6869"))
	wantPutPayload(t, payload(addr4(0x01020304), addr4(0x05060708), nil), hexBytes(t, "04 01020304 05060708"))
	wantPutPayload(t, payload(addr4(0), addr4(math.MaxUint32), []byte{}), hexBytes(t, "04 00000000 ffffffff"))
	wantPutPayload(t, payload(addr6(0x0102030405060708, 0x090A0B0C0D0E0F10), addr6(0x1112131415161718, 0x191A1B1C1D1E1F20), []byte{0x21}),
		hexBytes(t, "06 0102030405060708 090a0b0c0d0e0f10 1112131415161718 191a1b1c1d1e1f20 21"))
	wantPutPayload(t, payload(addr6(0, 1), addr6(1, 0), nil), hexBytes(t, "06 0000000000000000 0000000000000001 0000000000000001 0000000000000000"))
	wantPutPayload(t, payload(addr4(1), addr4(1), []byte{4, 6, 0}), hexBytes(t, "04 00000001 00000001 040600"))
}

// P9.6: bodies of no bytes, of as many as fit, and of one more.
func TestPutPayloadOfAllLengths(t *testing.T) {
	for _, x := range []struct{ family, most int }{{4, 1271}, {6, 1247}} {
		p := payload(edgeAddrs(x.family)[1], edgeAddrs(x.family)[0], nil)
		all := counted(1, 7, 1400)
		for n := range len(all) + 1 {
			p.Body = all[:n]
			if n <= x.most {
				wantPutPayload(t, p, plainPayload(p))
			} else {
				wantNoPayload(t, p)
			}
		}
		p.Body = all[:x.most]
		if b, _ := packet.PutPayload(p); len(b) != mtu {
			t.Errorf("a payload of the family %d with a body of %d bytes has %d", x.family, x.most, len(b))
		}
		p.Body = make([]byte, 1<<20)
		wantNoPayload(t, p)
	}
}

// P9.6: all pairs of edges: of one family they are a payload's, of two they are none's.
func TestPutPayloadOfAllPairs(t *testing.T) {
	for _, one := range []int{4, 6} {
		for _, two := range []int{4, 6} {
			for _, src := range edgeAddrs(one) {
				for _, dst := range edgeAddrs(two) {
					p := payload(src, dst, []byte("body"))
					if one == two {
						wantPutPayload(t, p, plainPayload(p))
					} else {
						wantNoPayload(t, p)
					}
				}
			}
		}
	}
}

// P9.6: what is no address, as source, as destination and as both.
func TestPutPayloadOfNoAddrs(t *testing.T) {
	for _, a := range noAddrs() {
		for _, body := range [][]byte{nil, []byte("hi"), make([]byte, mtu)} {
			wantNoPayload(t, payload(a, a, body))
			for _, b := range []api.Addr{addr4(1), addr6(1, 2), {}, {Family: a.Family}} {
				wantNoPayload(t, payload(a, b, body))
				wantNoPayload(t, payload(b, a, body))
			}
		}
	}
	wantNoPayload(t, api.Payload{})
}

// P9.7: the payload of the bytes, each byte from its place.
func TestGetPayload(t *testing.T) {
	wantGetPayload(t, hexBytes(t, "04 0a000001 0a000002 6869"), payload(addr4(0x0A000001), addr4(0x0A000002), []byte("hi")), api.OK)
	wantGetPayload(t, hexBytes(t, "04 0a000001 0a000002"), payload(addr4(0x0A000001), addr4(0x0A000002), nil), api.OK)
	wantGetPayload(t, hexBytes(t, "04 00000000 ffffffff 00"), payload(addr4(0), addr4(math.MaxUint32), []byte{0}), api.OK)
	wantGetPayload(t, hexBytes(t, "06 0102030405060708 090a0b0c0d0e0f10 1112131415161718 191a1b1c1d1e1f20 21"),
		payload(addr6(0x0102030405060708, 0x090A0B0C0D0E0F10), addr6(0x1112131415161718, 0x191A1B1C1D1E1F20), []byte{0x21}), api.OK)
	wantGetPayload(t, hexBytes(t, "06 ffffffffffffffff ffffffffffffffff 0000000000000000 0000000000000000"),
		payload(addr6(math.MaxUint64, math.MaxUint64), addr6(0, 0), nil), api.OK)
}

// P9.7: the examples that are none.
func TestGetPayloadOfNone(t *testing.T) {
	for _, text := range []string{"", "04", "06", "05", "00", "04 0a000001 0a0000", "05 0a000001 0a000002", "06 0a000001 0a000002", "24 0a000001 0a000002"} {
		wantNoPayloadIn(t, hexBytes(t, text))
	}
	wantNoPayloadIn(t, nil)
	wantNoPayloadIn(t, []byte{})
}

// P9.7: all lengths of both families, those cut off and those too long; what stands in the spare room is not the payload's.
func TestGetPayloadOfAllLengths(t *testing.T) {
	for _, x := range []struct {
		family byte
		least  int
	}{{4, 9}, {6, 33}} {
		all := counted(int(x.family), 7, 1400)
		for n := range len(all) + 1 {
			want, e := plainGetPayload(all[:n])
			if (e == api.OK) != (n >= x.least && n <= mtu) {
				t.Fatalf("family %d, %d bytes: the plain form tells %d", x.family, n, e)
			}
			wantGetPayload(t, all[:n], want, e)
			wantGetPayload(t, bytes.Clone(all[:n]), want, e)
		}
		wantNoPayloadIn(t, append([]byte{x.family}, make([]byte, 1<<20)...))
	}
}

// P9.7: all first bytes, at lengths that both families, one or none of them would have.
func TestGetPayloadOfAllFirstBytes(t *testing.T) {
	for first := range 256 {
		for _, n := range []int{1, 8, 9, 10, 32, 33, 34, mtu, mtu + 1} {
			b := counted(first, 1, n)
			want, e := plainGetPayload(b)
			if (e == api.OK) != (first == 4 && n >= 9 && n <= mtu || first == 6 && n >= 33 && n <= mtu) {
				t.Fatalf("first byte %d, %d bytes: the plain form tells %d", first, n, e)
			}
			wantGetPayload(t, b, want, e)
		}
	}
}
