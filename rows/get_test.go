package rows_test

import (
	"bytes"
	"fmt"
	"math"
	"slices"
	"testing"

	"culvert/api"
	"culvert/rows"
)

// P15.2: the row that Put makes, read by its own Get, and refused by the two others.
func TestGetOfRightRows(t *testing.T) {
	for _, p := range somePeers() {
		r, _ := plainPutPeer(p)
		if got, e := rows.GetPeer(r); !samePeer(got, p) || e != api.OK {
			t.Errorf("GetPeer(%s) = %v, %d, want %v", toldRow(r), got, e, p)
		}
	}
	for _, l := range someLanes() {
		r, _ := plainPutLane(l)
		if got, e := rows.GetLane(r); !sameLane(got, l) || e != api.OK {
			t.Errorf("GetLane(%s) = %v, %d, want %v", toldRow(r), got, e, l)
		}
	}
	for _, n := range someBoots() {
		if got, e := rows.GetBoots(bootsRow(uint64(n))); got != n || e != api.OK {
			t.Errorf("GetBoots of %d = %d, %d", n, got, e)
		}
	}
	for _, r := range someRows() {
		wantGets(t, r)
	}
}

// P15.2: each byte of key and value turned by itself: bit by bit, all of them, one up and one down.
func TestGetOfTurnedBytes(t *testing.T) {
	for _, r := range someRows() {
		turned(r.Key, func(b []byte) { wantGets(t, api.Row{Key: b, Value: r.Value}) })
		turned(r.Value, func(b []byte) { wantGets(t, api.Row{Key: r.Key, Value: b}) })
	}
}

func turned(b []byte, call func([]byte)) {
	for i := range b {
		others := []byte{b[i] ^ 0xFF, b[i] + 1, b[i] - 1}
		for bit := range 8 {
			others = append(others, b[i]^1<<bit)
		}
		for _, x := range others {
			out := bytes.Clone(b)
			out[i] = x
			call(out)
		}
	}
}

// P15.2: a byte more and a byte less, of key and of value, at each place; and far more and far less.
func TestGetOfOtherLengths(t *testing.T) {
	for _, r := range someRows() {
		for _, key := range otherLengths(r.Key) {
			wantNone(t, "a key of another length", api.Row{Key: key, Value: r.Value})
		}
		for _, value := range otherLengths(r.Value) {
			wantNone(t, "a value of another length", api.Row{Key: r.Key, Value: value})
		}
		for n := range len(r.Value) {
			wantGets(t, api.Row{Key: r.Key, Value: r.Value[:n]})
		}
		wantGets(t, api.Row{Key: r.Value, Value: r.Key})
		wantNone(t, "no value", api.Row{Key: r.Key})
		wantNone(t, "no key", api.Row{Value: r.Value})
		wantNone(t, "a value twice", api.Row{Key: r.Key, Value: slices.Concat(r.Value, r.Value)})
		wantNone(t, "a long key", api.Row{Key: append(bytes.Clone(r.Key), make([]byte, 300)...), Value: r.Value})
		wantNone(t, "a long value", api.Row{Key: r.Key, Value: append(bytes.Clone(r.Value), make([]byte, 66000)...)})
	}
	wantNone(t, "the zero row", api.Row{})
}

// otherLengths are the bytes with one taken out or one put in, wherever that may be.
func otherLengths(b []byte) [][]byte {
	var out [][]byte
	for i := range b {
		out = append(out, slices.Delete(bytes.Clone(b), i, i+1))
	}
	for i := range len(b) + 1 {
		for _, x := range []byte{0, 1, 4, 6, 0x42, 0x4C, 0x50, 0xFF} {
			out = append(out, slices.Insert(bytes.Clone(b), i, x))
		}
	}
	return out
}

// P15.2: each first byte of a key, and the keys of other things: only one's own is right.
func TestGetOfOtherKeys(t *testing.T) {
	for _, r := range someRows() {
		for x := range 256 {
			key := bytes.Clone(r.Key)
			if key[0] == byte(x) {
				continue
			}
			key[0] = byte(x)
			wantNone(t, "another first byte", api.Row{Key: key, Value: r.Value})
		}
		for _, other := range someRows() {
			if other.Key[0] != r.Key[0] {
				wantNone(t, "the key of another thing", api.Row{Key: other.Key, Value: r.Value})
			}
		}
	}
}

// P15.2: numbers at their bounds and one beyond, where all else is right.
func TestGetOfNumbersAtTheirBounds(t *testing.T) {
	k := key(3)
	for link, ok := range map[uint32]bool{0: false, 1: true, 1 << 31: true, maxLink: true} {
		wantPeer(t, fmt.Sprint("link ", link), peerRow(link, k, 0), ok)
	}
	for x, ok := range map[uint64]bool{0: true, maxBoots: true, maxBoots + 1: false, math.MaxInt64: false, 1 << 63: false, 1<<63 | 1: false, 1<<63 | maxBoots: false, math.MaxUint64: false} {
		wantBoots(t, bootsRow(x), ok)
	}
	for side := range 256 {
		wantLane(t, fmt.Sprint("side ", side), laneRow(k, byte(side), 1, 0, 0, 0, 0, 0), side < 2)
	}
	for x, ok := range map[uint32]bool{0: true, 1: true, maxGen: true, maxGen + 1: false, maxGen + 2: false, math.MaxUint32: false} {
		wantLane(t, fmt.Sprint("cur ", x), laneRow(k, 0, x, 0, 0, 0, 0, 0), ok && x > 0)
		wantLane(t, fmt.Sprint("next ", x), laneRow(k, 0, 1, x, 0, 0, 0, 0), ok)
	}
	for _, x := range []uint64{0, 1, maxSec, maxSec + 1, math.MaxUint64 - 1, math.MaxUint64} {
		wantLane(t, fmt.Sprint("send ", x), laneRow(k, 0, 1, 0, x, 0, 0, 0), true)
		wantLane(t, fmt.Sprint("ceil ", x), laneRow(k, 0, 1, 0, 0, x, 0, 0), true)
		wantLane(t, fmt.Sprint("sec ", x), laneRow(k, 0, 1, 0, 0, 0, x, 0), x <= maxSec)
	}
	for x, ok := range map[uint32]bool{0: true, 1: true, maxNano: true, maxNano + 1: false, 1 << 31: false, math.MaxUint32: false} {
		wantLane(t, fmt.Sprint("nano ", x), laneRow(k, 0, 1, 0, 0, 0, 0, x), ok)
		wantLane(t, fmt.Sprint("greatest sec, nano ", x), laneRow(k, 0, 1, 0, 0, 0, maxSec, x), ok)
	}
}

func wantPeer(t *testing.T, what string, r api.Row, ok bool) {
	t.Helper()
	if _, plain := plainGetPeer(r); plain != ok {
		t.Fatalf("%s: the plain form says %v", what, plain)
	}
	if !ok {
		wantNone(t, what, r)
	}
	wantGets(t, r)
}

func wantLane(t *testing.T, what string, r api.Row, ok bool) {
	t.Helper()
	if _, plain := plainGetLane(r); plain != ok {
		t.Fatalf("%s: the plain form says %v", what, plain)
	}
	if !ok {
		wantNone(t, what, r)
	}
	wantGets(t, r)
}

func wantBoots(t *testing.T, r api.Row, ok bool) {
	t.Helper()
	if _, plain := plainGetBoots(r); plain != ok {
		t.Fatalf("boots %x: the plain form says %v", r.Value, plain)
	}
	if !ok {
		wantNone(t, "boots", r)
	}
	wantGets(t, r)
}

// laidPrefix is what stands in a row for a prefix, be it one or not.
func laidPrefix(family, bits byte, rest ...byte) []byte { return append([]byte{family, bits}, rest...) }

func laid(l []api.Prefix) [][]byte {
	var out [][]byte
	for _, p := range l {
		b, _ := prefixBytes(p)
		out = append(out, b)
	}
	return out
}

// P15.2: a count of prefixes that is not how many stand there; and of more than there may be.
func TestGetPeerCounts(t *testing.T) {
	k := key(3)
	for _, list := range []func(number, n int) []api.Prefix{rising4, rising6} {
		for n := range 17 {
			for count := range 256 {
				wantPeer(t, fmt.Sprintf("%d prefixes, told as %d", n, count), peerRow(7, k, byte(count), laid(list(2, n))...), count == n)
			}
		}
	}
	for _, n := range []int{17, 18, 32, 255, 256, 257, 256 + 16} {
		wantPeer(t, fmt.Sprint(n, " prefixes"), peerRow(7, k, byte(n), laid(rising4(2, n))...), false)
		wantPeer(t, fmt.Sprint(n, " prefixes of 6"), peerRow(7, k, byte(n), laid(rising6n(n))...), false)
	}
	wantPeer(t, "18 bytes of 4 told as one", peerRow(7, k, 1, laid(rising4(2, 3))...), false)
	wantPeer(t, "18 bytes of 6 told as three", peerRow(7, k, 3, laid(rising6(2, 1))...), false)
}

// P15.2: prefixes that are none, that do not rise, that have bits behind their length.
func TestGetPeerPrefixes(t *testing.T) {
	k := key(3)
	zeros := make([]byte, 16)
	ten := laidPrefix(4, 8, 10, 0, 0, 0)
	for what, wrong := range map[string][]byte{
		"family 5":               laidPrefix(5, 8, 10, 0, 0, 0),
		"family 5, long":         laidPrefix(5, 8, zeros...),
		"family 0":               laidPrefix(0, 0, 0, 0, 0, 0),
		"family 0, long":         laidPrefix(0, 0, zeros...),
		"family 255":             laidPrefix(255, 8, zeros...),
		"33 bits":                laidPrefix(4, 33, 10, 0, 0, 0),
		"255 bits":               laidPrefix(4, 255, 10, 0, 0, 0),
		"129 bits":               laidPrefix(6, 129, zeros...),
		"6 with 255 bits":        laidPrefix(6, 255, zeros...),
		"a bit behind 8":         laidPrefix(4, 8, 10, 128, 0, 0),
		"the last bit behind 8":  laidPrefix(4, 8, 10, 0, 0, 1),
		"a bit behind 0":         laidPrefix(4, 0, 128, 0, 0, 0),
		"the last bit behind 31": laidPrefix(4, 31, 10, 0, 0, 1),
		"6, a bit behind 0":      laidPrefix(6, 0, slices.Concat([]byte{128}, zeros[1:])...),
		"6, a bit behind 127":    laidPrefix(6, 127, slices.Concat(zeros[1:], []byte{1})...),
		"one byte too few":       laidPrefix(4, 8, 10, 0, 0),
		"6 in four bytes":        laidPrefix(6, 8, 10, 0, 0, 0),
		"4 in sixteen bytes":     laidPrefix(4, 8, slices.Concat([]byte{10}, zeros[1:])...),
		"nothing but a family":   {4},
	} {
		wantPeer(t, what+", alone", peerRow(7, k, 1, wrong), false)
		wantPeer(t, what+", behind one", peerRow(7, k, 2, ten, wrong), false)
		wantPeer(t, what+", ahead of one", peerRow(7, k, 2, wrong, laidPrefix(6, 128, zeros...)), false)
	}
	one, two := laidPrefix(4, 16, 10, 1, 0, 0), laidPrefix(6, 8, slices.Concat([]byte{0xFD}, zeros[1:])...)
	all := [][]byte{ten, one, two}
	for i, a := range all {
		for j, b := range all {
			wantPeer(t, fmt.Sprintf("the prefixes %d and %d", i, j), peerRow(7, k, 2, a, b), i < j)
			for l, c := range all {
				wantPeer(t, fmt.Sprintf("the prefixes %d, %d and %d", i, j, l), peerRow(7, k, 3, a, b, c), i < j && j < l)
			}
		}
	}
	full := laid(rising4(2, 16))
	for i := range 15 {
		full[i], full[i+1] = full[i+1], full[i]
		wantPeer(t, fmt.Sprint("two of sixteen that fall, at ", i), peerRow(7, k, 16, full...), false)
		full[i], full[i+1] = full[i+1], full[i]
	}
	wantPeer(t, "sixteen", peerRow(7, k, 16, full...), true)
}

// P15.2, P0.1: any rows, held against the plain form: right ones with some bytes turned, put in and taken out, and bytes of any kind.
func TestGetOfAnyRows(t *testing.T) {
	s := newSampler(1)
	right := someRows()
	for range 40000 {
		r := pick(s, right)
		r = api.Row{Key: s.spoilt(r.Key), Value: s.spoilt(r.Value)}
		wantGets(t, r)
	}
}

// spoilt is a list with up to three changes.
func (s sampler) spoilt(b []byte) []byte {
	out := bytes.Clone(b)
	for range s.IntN(4) {
		at := s.IntN(len(out) + 1)
		switch {
		case at == len(out) || s.IntN(4) == 0:
			out = slices.Insert(out, at, byte(s.Uint32()))
		case s.IntN(3) == 0:
			out = slices.Delete(out, at, at+1)
		default:
			out[at] = byte(s.Uint32())
		}
	}
	return out
}

// P15.3: Get of what Put answered is the thing, Put of what Get answered is the row.
func TestThereAndBack(t *testing.T) {
	peers, lanes, boots := somePeers(), someLanes(), someBoots()
	s := newSampler(2)
	for range 3000 {
		peers, lanes, boots = append(peers, s.peer()), append(lanes, s.lane()), append(boots, s.number(maxBoots))
	}
	for _, p := range peers {
		wantBack(t, p, rows.PutPeer, rows.GetPeer, plainPutPeer, samePeer)
	}
	for _, l := range lanes {
		wantBack(t, l, rows.PutLane, rows.GetLane, plainPutLane, sameLane)
	}
	for _, n := range boots {
		wantBack(t, n, rows.PutBoots, rows.GetBoots, plainPutBoots, sameInt)
	}
}

func wantBack[T any](t *testing.T, thing T, put func(T) (api.Row, api.Errno), get func(api.Row) (T, api.Errno), plain func(T) (api.Row, bool), same func(a, b T) bool) {
	t.Helper()
	want, ok := plain(thing)
	if !ok {
		t.Fatalf("%.400v may not be", thing)
	}
	r, e := put(thing)
	if !sameRow(r, want) || e != api.OK {
		t.Fatalf("Put of %.400v = %s, %d, want %s", thing, toldRow(r), e, toldRow(want))
	}
	back, e := get(r)
	if !same(back, thing) || e != api.OK {
		t.Fatalf("Get of Put of %.400v = %.400v, %d", thing, back, e)
	}
	if again, e := put(back); !sameRow(again, want) || e != api.OK {
		t.Fatalf("Put of Get of %s = %s, %d", toldRow(want), toldRow(again), e)
	}
}

// P15.3: where Get takes a row that nobody put, Put makes just that row of its answer.
func TestBackFromAnyRow(t *testing.T) {
	taken := 0
	back := func(r api.Row) {
		if p, e := rows.GetPeer(r); e == api.OK {
			taken++
			wantBack(t, p, rows.PutPeer, rows.GetPeer, func(api.Peer) (api.Row, bool) { return r, true }, samePeer)
		}
		if l, e := rows.GetLane(r); e == api.OK {
			taken++
			wantBack(t, l, rows.PutLane, rows.GetLane, func(api.Lane) (api.Row, bool) { return r, true }, sameLane)
		}
		if n, e := rows.GetBoots(r); e == api.OK {
			taken++
			wantBack(t, n, rows.PutBoots, rows.GetBoots, func(int) (api.Row, bool) { return r, true }, sameInt)
		}
	}
	for _, r := range someRows() {
		turned(r.Key, func(b []byte) { back(api.Row{Key: b, Value: r.Value}) })
		turned(r.Value, func(b []byte) { back(api.Row{Key: r.Key, Value: b}) })
	}
	if taken < 1000 {
		t.Errorf("just %d rows were taken", taken)
	}
}
