package net_test

import (
	"bytes"
	"slices"
	"testing"

	"culvert/api"
	"culvert/net"
)

// room is a list in the middle of a longer one, whose bytes ahead and behind are watched too.
type room struct{ all, was, list []byte }

func newRoom(list []byte) *room {
	const wide = 40
	around := bytes.Repeat([]byte{0x77}, wide)
	all := slices.Concat(around, list, around)
	return &room{all, slices.Clone(all), all[wide : wide+len(list)]}
}

func (r *room) wantUnchanged(t *testing.T, what string) {
	t.Helper()
	if !bytes.Equal(r.all, r.was) {
		t.Fatalf("%s has changed what was handed in, or what lies around it", what)
	}
}

// spoil writes over all that a caller may write over, the spare room too.
func spoil(b []byte) {
	b = b[:cap(b)]
	for i := range b {
		b[i] ^= 0xA5
	}
}

func spoilList(l []api.Flight) {
	for _, f := range l {
		spoil(f.Data)
	}
	l = l[:cap(l)]
	for i := range l {
		l[i] = flight(-77, 77, []byte("spoilt"))
	}
}

// kept is a list of flights in memory of its own.
func kept(l []api.Flight) []api.Flight {
	out := slices.Clone(l)
	for i, f := range out {
		out[i].Data = bytes.Clone(f.Data)
	}
	return out
}

func sizes() []int { return []int{0, 1, 2, 7, 8, 9, 31, 32, 33, 36, 100, 1316, 2048} }

// P21.7: the bytes of a Send are neither changed nor kept, nor is what lies around them: written over behind it, they change nothing that is under way, copied or taken.
func TestSendMemory(t *testing.T) {
	for _, size := range sizes() {
		n := newNet(t)
		r := newRoom(numbered(size, size))
		wantSend(t, n, 1, r.list, 1)
		r.wantUnchanged(t, "Send")
		wantSend(t, n, 2, r.list, 2)
		wantCopy(t, n, 1, 3, api.OK)
		for at := range size {
			wantFlip(t, n, 1, at, 255, api.OK)
			wantFlip(t, n, 1, at, 255, api.OK)
			wantFlip(t, n, 3, at, 255, api.OK)
			wantFlip(t, n, 3, at, 255, api.OK)
		}
		if size > 0 {
			wantFlip(t, n, 3, size-1, 1, api.OK)
		}
		r.wantUnchanged(t, "Flip, or Copy,")
		for i := range r.all {
			r.all[i] = 0x66
		}
		b, c := numbered(size, size), numbered(size, size)
		if size > 0 {
			c[size-1] ^= 1
		}
		wantUnder(t, n, flight(1, 1, b), flight(2, 2, b), flight(3, 1, c))
		f, _ := n.Take(1)
		spoil(append(f.Data, "more"...))
		wantTake(t, n, flight(2, 2, b))
		wantTake(t, n, flight(3, 1, c))
		if bytes.Count(r.all, []byte{0x66}) != len(r.all) {
			t.Fatalf("a later call has changed what was handed in")
		}
	}
}

// P21.7: bytes that are lost are left alone too, and nothing of them is kept.
func TestLostMemory(t *testing.T) {
	n, all := filled(t, most)
	for _, size := range sizes() {
		r := newRoom(numbered(size, size))
		wantSend(t, n, 1, r.list, 0)
		r.wantUnchanged(t, "Send of what is lost")
		spoil(r.all)
	}
	wantUnder(t, n, all...)
}

// P21.7: one list may be handed in again and again, changed by its owner in between.
func TestOneListForAll(t *testing.T) {
	n := newNet(t)
	b := make([]byte, 20)
	var all []api.Flight
	for no := 1; no <= 100; no++ {
		copy(b, numbered(no, 20))
		wantSend(t, n, no, b[:no%21], no)
		all = append(all, flight(no, no, numbered(no, 20)[:no%21]))
	}
	wantUnder(t, n, all...)
}

// some is a net with flights of several sizes, the same bytes twice, copies, and flips.
func some(t *testing.T) *net.Net {
	t.Helper()
	n := newNet(t)
	for i, size := range sizes() {
		b := numbered(i, size)
		wantSend(t, n, i, b, 3*i+1)
		wantSend(t, n, i, b, 3*i+2)
		wantCopy(t, n, 3*i+1, 3*i+3, api.OK)
		if size > 0 {
			wantFlip(t, n, 3*i+3, size-1, 0x10, api.OK)
		}
	}
	return n
}

// P21.7: what Under answers is written over, its spare room too, without a change of the net.
func TestUnderWrittenOver(t *testing.T) {
	n := some(t)
	want := kept(n.Under())
	for range 3 {
		spoilList(n.Under())
		wantUnder(t, n, want...)
	}
	wantCopy(t, n, 4, len(want)+1, api.OK)
	want = append(want, flight(len(want)+1, want[3].To, want[3].Data))
	spoilList(n.Under())
	for _, f := range want {
		wantTake(t, n, f)
	}
}

// P21.7: what Take answers is written over, its spare room too, without a change of what is still under way: not of its copies either, nor of what it is a copy of.
func TestTakenWrittenOver(t *testing.T) {
	for _, first := range []int{1, 2, 3} {
		n := some(t)
		left := kept(n.Under())
		for i := range sizes() {
			no := 3*i + first
			f, e := n.Take(no)
			wantErr(t, "Take", e, api.OK)
			spoil(f.Data)
			left = without(left, no)
			wantUnder(t, n, left...)
		}
		for _, f := range left {
			wantTake(t, n, f)
		}
	}
}

// lists are all lists of bytes that a net hands out: twice what is under way, then each flight as it is taken.
func lists(t *testing.T, n *net.Net) [][]byte {
	t.Helper()
	var out [][]byte
	first, second := n.Under(), n.Under()
	for _, l := range [][]api.Flight{first, second} {
		for _, f := range l {
			out = append(out, f.Data)
		}
	}
	for _, f := range first {
		g, e := n.Take(f.No)
		wantErr(t, "Take", e, api.OK)
		out = append(out, g.Data)
	}
	return out
}

// P21.7: no two lists share anything, of one answer or of two, spare room too.
func TestAnswersApart(t *testing.T) {
	all := lists(t, some(t))
	if len(all) != 3*3*len(sizes()) || len(all) > 256 {
		t.Fatalf("%d lists", len(all))
	}
	for k, b := range all {
		for i := range b[:cap(b)] {
			b[:cap(b)][i] = byte(k)
		}
	}
	for k, b := range all {
		if whole := b[:cap(b)]; bytes.Count(whole, []byte{byte(k)}) != len(whole) {
			t.Errorf("the list %d shows what was written into another one: %s", k, brief(whole))
		}
	}
}

// P21.7: two answers of Under share no list of flights, spare room too.
func TestUndersApart(t *testing.T) {
	for _, many := range []int{0, 1, 2, 3, 100, most} {
		n, all := filled(t, many)
		one, two := n.Under(), n.Under()
		spoilList(one)
		if !sameList(two, all) {
			t.Fatalf("an answer of Under shows what was written into another one: %s", briefList(two))
		}
		for range 50 { // one by one, so that the spare room is used where there is some
			two = append(two, flight(66, 66, nil))
		}
		wantUnder(t, n, all...)
		if three := n.Under(); !sameList(three, two[:many]) || len(one) != many {
			t.Fatalf("an answer of Under, grown, has changed another one")
		}
	}
}

// P21.7: each list that is answered is grown without a change of anything else.
func TestAnswersGrown(t *testing.T) {
	n := some(t)
	stays := kept(n.Under())
	under := n.Under()
	for range 600 {
		for i := range under {
			under[i].Data = append(under[i].Data, 0x66)
		}
	}
	wantUnder(t, n, stays...)
	all := lists(t, n)
	var want [][]byte
	for _, b := range all {
		want = append(want, bytes.Clone(b))
	}
	for range 600 {
		for i := range all {
			all[i] = append(all[i], byte(i))
		}
	}
	for i, b := range all {
		if !bytes.Equal(b, append(want[i], bytes.Repeat([]byte{byte(i)}, 600)...)) {
			t.Errorf("the list %d, grown, shows what another one was grown by", i)
		}
	}
}

// P21.7: what Take answers is grown: what is under way, sent and copied later too, does not show it, nor does the answer show what becomes of them.
func TestTakenGrown(t *testing.T) {
	for _, size := range sizes() {
		n := newNet(t)
		b := numbered(3, size)
		wantSend(t, n, 1, b, 1)
		wantCopy(t, n, 1, 2, api.OK)
		f, _ := n.Take(1)
		wantCopy(t, n, 2, 3, api.OK)
		wantSend(t, n, 1, b, 4)
		for range 100 {
			f.Data = append(f.Data, 0x66)
		}
		wantUnder(t, n, flight(2, 1, b), flight(3, 1, b), flight(4, 1, b))
		for at := range size {
			for no := 2; no <= 4; no++ {
				wantFlip(t, n, no, at, 1, api.OK)
			}
		}
		if want := append(numbered(3, size), bytes.Repeat([]byte{0x66}, 100)...); !bytes.Equal(f.Data, want) {
			t.Fatalf("what was taken has become %s", brief(f.Data))
		}
	}
}

// P21.7: elder answers stay as they were, whatever the net does.
func TestElderAnswers(t *testing.T) {
	n := some(t)
	f, _ := n.Take(33)
	under := n.Under()
	was, wasUnder := bytes.Clone(f.Data), kept(under)
	for _, g := range wasUnder {
		for at := range g.Data {
			wantFlip(t, n, g.No, at, 0xFF, api.OK)
		}
	}
	for _, g := range wasUnder[:10] {
		wantDrop(t, n, g.No)
	}
	for range 2 * most {
		n.Send(9, bytes.Repeat([]byte{9}, 33))
	}
	n.Under()
	if !bytes.Equal(f.Data, was) || f.No != 33 || !sameList(under, wasUnder) {
		t.Errorf("an elder answer has changed behind later calls")
	}
}

// P21.7: what a net answers may be handed to it again, and written over behind that.
func TestAnswersHandedIn(t *testing.T) {
	for _, size := range sizes() {
		n, other := newNet(t), newNet(t)
		b := numbered(8, size)
		wantSend(t, n, 1, b, 1)
		wantSend(t, n, 2, b, 2)
		f, _ := n.Take(1)
		wantSend(t, n, 3, f.Data, 3)
		wantSend(t, other, 3, f.Data, 1)
		u := n.Under()
		wantSend(t, n, 4, u[0].Data, 4)
		wantSend(t, other, 4, u[1].Data, 2)
		spoil(f.Data)
		spoilList(u)
		wantUnder(t, n, flight(2, 2, b), flight(3, 3, b), flight(4, 4, b))
		wantUnder(t, other, flight(1, 3, b), flight(2, 4, b))
	}
}
