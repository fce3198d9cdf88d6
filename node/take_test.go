package node_test

import (
	"fmt"
	"slices"
	"testing"

	"culvert/api"
)

// P20.6: what is no packet's form is dropped by that, with and without peers; nothing has changed.
func TestTakeForm(t *testing.T) {
	b := lively(t)
	data := b.from(pkData, 7, 4, 50, pay("10.7.0.1", "1.1.1.1", "hello"))
	init := b.from(pkInit, 7, 50, 0, stampBytes(stampOf(99, 0)))
	var bad [][]byte
	for n := range 45 { // cut off
		bad = append(bad, data[:n])
	}
	for n := range len(init) {
		bad = append(bad, init[:n])
	}
	bad = append(bad, nil, append(slices.Clone(init), 0), sealed(key(1), 1, headOf(pkData, 7, 4, 50), make([]byte, 1281)), sealed(key(1), 1, headOf(pkData, 7, 4, 50), make([]byte, 8)))
	for _, h := range []api.Head{headOf(0, 7, 4, 50), headOf(4, 7, 4, 50), headOf(pkData, 0, 4, 50), headOf(pkData, 7, 0, 50), headOf(pkData, 7, maxGen+1, 50), headOf(pkData, 7, 4, maxCounter+1)} {
		bad = append(bad, sealed(key(1), 1, h, pay("10.7.0.1", "1.1.1.1", "hello")))
	}
	for i := 1; i < 4; i++ {
		spoilt := slices.Clone(data)
		spoilt[i] = 1
		bad = append(bad, spoilt)
	}
	for _, p := range bad {
		b.wantDrop(t, "no form", p, api.DropForm)
	}
	empty := fresh(t, 32, params(4, 64))
	for _, p := range bad {
		empty.wantDrop(t, "no form, no peers", p, api.DropForm)
	}
	b.wantTaken(t, "data, not spoilt", data, api.TkDelivered, 7)
	b.wantTaken(t, "an init, not spoilt", init, api.TkAnswered, 7)
}

// P20.6: packets for links of which there is no peer: never there, gone, not yet there.
func TestTakePeer(t *testing.T) {
	b := lively(t)
	text := pay("10.7.0.1", "1.1.1.1", "hello")
	for _, link := range []int{1, 6, 10, 255, 256, 7 << 8, 7 << 16, 7 << 24, maxLink} {
		for _, kind := range []int{pkInit, pkReply} {
			b.wantDrop(t, "no peer", sealed(key(1), 1, headOf(kind, link, 6, 0), stampBytes(stampOf(5, 1))), api.DropPeer)
		}
		b.wantDrop(t, "no peer", sealed(key(1), 1, headOf(pkData, link, 4, 50), text), api.DropPeer)
	}
	p := b.from(pkData, 7, 4, 50, text)
	b.ok(t, commit(remove(7)))
	b.wantDrop(t, "a peer that went", p, api.DropPeer)
	b.ok(t, commit(add(7, key(9), 1), allow(7, "10.7.0.0/16")))
	b.wantDrop(t, "another one of its link", p, api.DropGen)
	q := b.from(pkData, 7, 1, 50, text)
	b.wantDelivered(t, "its own", q, 7, text)
	b.ok(t, commit(add(10, key(10), 0), allow(10, "10.10.0.0/16")))
	b.wantDelivered(t, "a peer that came", b.from(pkData, 10, 1, 0, pay("10.10.0.1", "1.1.1.1", "")), 10, pay("10.10.0.1", "1.1.1.1", ""))
}

// P20.6: a packet for one peer that names another one's link, and one of another one's key.
func TestTakeOther(t *testing.T) {
	b := lively(t)
	for _, link := range []int{7, 8, 9} {
		for _, other := range []int{7, 8, 9} {
			p, _ := b.p.peer(other)
			side := 1 - b.p.lane(p.Key).Side
			own := fmt.Sprintf("10.%d.0.1", link)
			data := sealed(p.Key, side, headOf(pkData, link, 4, 60+uint64(other)), pay(own, "1.1.1.1", "x"))
			init := sealed(p.Key, side, headOf(pkInit, link, 40, 0), stampBytes(stampOf(9, 0)))
			if link != other {
				b.wantDrop(t, "another one's key", data, api.DropSeal)
				b.wantDrop(t, "another one's key", init, api.DropSeal)
				continue
			}
			b.wantDrop(t, "one's own side", sealed(p.Key, 1-side, headOf(pkData, link, 4, 60), pay(own, "1.1.1.1", "x")), api.DropSeal)
			turned := slices.Clone(data)
			turned[7] ^= 15 // it names another link, of which there is a peer or none
			if x := b.do(t, take(turned)); x.taken.Code != api.DropPeer && x.taken.Code != api.DropSeal {
				t.Fatalf("%+v", x)
			}
			b.wantTaken(t, "its own", data, api.TkDelivered, link)
		}
	}
}

// P20.6: each bit of a packet turned, of each type: it is dropped, nothing has changed, and behind all of them the packet is taken.
func TestTakeTurned(t *testing.T) {
	for _, kind := range []int{pkInit, pkReply, pkData} {
		b := lively(t)
		whole := map[int][]byte{
			pkInit:  b.from(pkInit, 8, 30, 2, stampBytes(stampOf(9, 0))),
			pkReply: b.from(pkReply, 8, 6, 1, stampBytes(stampOf(5, 1))),
			pkData:  b.from(pkData, 8, 4, 50, pay("10.8.0.1", "1.1.1.1", "hello")),
		}[kind]
		codes := map[api.Errno]int{}
		for i := range 8 * len(whole) {
			spoilt := slices.Clone(whole)
			spoilt[i/8] ^= 1 << (i % 8)
			x := b.do(t, take(spoilt))
			if x.err != api.OK || x.taken.Kind != api.TkDropped {
				t.Fatalf("the bit %d turned: %+v", i, x)
			}
			codes[x.taken.Code]++
		}
		if codes[api.DropForm] < 24 || codes[api.DropPeer] < 20 || codes[api.DropSeal] < 100 {
			t.Fatalf("%v", codes)
		}
		b.wantTaken(t, "not spoilt", whole, map[int]int{pkInit: api.TkAnswered, pkReply: api.TkOpened, pkData: api.TkDelivered}[kind], 8)
	}
}

// P20.6: the source must be the peer's by the longest prefix of the node's own route, as it is at that moment.
func TestTakeSource(t *testing.T) {
	b := lively(t)
	counter := uint64(50)
	from := func(link int, src string, code api.Errno) {
		t.Helper()
		counter++
		text := pay(src, "1.1.1.1", "x")
		if code == api.OK {
			b.wantDelivered(t, src, b.from(pkData, link, 4, counter, text), link, text)
		} else {
			b.wantDrop(t, src, b.from(pkData, link, 4, counter, text), code)
		}
	}
	from(7, "10.7.0.0", api.OK)
	from(7, "10.8.0.0", api.DropSource)
	from(8, "10.7.0.0", api.DropSource)
	from(7, "11.0.0.0", api.DropSource)
	b.ok(t, commit(allow(8, "10.7.3.0/24"), allow(7, "0.0.0.0/0"), deny(9, "10.9.0.0/16")))
	from(7, "10.7.3.1", api.DropSource)
	from(8, "10.7.3.1", api.OK)
	from(7, "10.7.4.1", api.OK)
	from(7, "11.0.0.0", api.OK)
	from(7, "10.9.0.1", api.OK)
	from(9, "10.9.0.1", api.DropSource)
	b.wantDrop(t, "no payload", b.from(pkData, 7, 4, 100, append([]byte{5}, make([]byte, 20)...)), api.DropPayload)
	b.ok(t, commit(remove(8)))
	from(7, "10.7.3.1", api.OK)
	from(7, "10.8.0.1", api.OK)
}

// P20.6: ErrSeqs where what a packet asks for has no seq left: nothing has changed, and packets that ask for nothing are taken; ErrDevice where the device refuses; what is dropped comes ahead of both.
func TestTakeCommit(t *testing.T) {
	peers := []api.Peer{peerOf(7, key(1), "10.7.0.0/16")}
	lanes := []api.Lane{{Key: key(1), Cur: 4, Next: 6, SendCur: 7, Ceil: 20, Seen: stampOf(3, 0)}}
	text := pay("10.7.0.1", "1.1.1.1", "x")
	b := over(t, laid(t, 64, 2, maxSeq-2, rowsOf(peers, lanes, 0)), params(4, 64))
	b.ok(t, rekey(7))                                                                  // 7, with the seq MaxSeq - 1
	b.wantTaken(t, "the last seq", b.from(pkData, 7, 4, 30, text), api.TkDelivered, 7) // Ceil 34
	for range 2 {
		for what, p := range map[string][]byte{"an init": b.from(pkInit, 7, 9, 0, stampBytes(stampOf(4, 0))), "a reply": b.from(pkReply, 7, 7, 0, stampBytes(stampOf(0, 1))), "data": b.from(pkData, 7, 4, 34, text)} {
			b.wantErr(t, what, take(p), api.ErrSeqs)
		}
		b.wantDrop(t, "no form", nil, api.DropForm)
		b.wantDrop(t, "no peer", sealed(key(1), 1, headOf(pkData, 8, 4, 34), text), api.DropPeer)
		b.wantDrop(t, "no source", b.from(pkData, 7, 4, 34, pay("10.8.0.1", "1.1.1.1", "x")), api.DropSource)
		b.wantDrop(t, "a generation that was", b.from(pkInit, 7, 4, 0, stampBytes(stampOf(4, 0))), api.DropGen)
		b.wantDrop(t, "a stamp that was", b.from(pkInit, 7, 9, 0, stampBytes(stampOf(3, 0))), api.DropStamp)
	}
	b.wantOps(t, "below the ceiling", take(b.from(pkData, 7, 4, 33, text)), 0)
	b.wantOps(t, "below the ceiling", take(b.from(pkData, 7, 4, 29, text)), 0)
	b.wantDrop(t, "below the floor", b.from(pkData, 7, 4, 19, text), api.DropReplay)

	for _, kind := range []int{power, io} {
		for i := range 3 {
			b := over(t, laid(t, 64, 2, 8, rowsOf(peers, lanes, 0)), params(4, 64))
			b.ok(t, rekey(7))
			p := [][]byte{b.from(pkInit, 7, 9, 0, stampBytes(stampOf(4, 0))), b.from(pkReply, 7, 7, 0, stampBytes(stampOf(0, 1))), b.from(pkData, 7, 4, 34, text)}[i]
			b.arm(t, fault(1, kind))
			b.wantDrop(t, "no form", nil, api.DropForm)
			b.wantDrop(t, "no peer", sealed(key(1), 1, headOf(pkData, 8, 4, 34), text), api.DropPeer)
			b.wantDrop(t, "no source", b.from(pkData, 7, 4, 34, pay("10.8.0.1", "1.1.1.1", "x")), api.DropSource)
			b.wantErr(t, "refused", take(p), api.ErrDevice)
			b.wantErr(t, "stopped", take(p), api.ErrDown)
			b.wantErr(t, "stopped ahead of no form", take(nil), api.ErrDown)
			b.wantErr(t, "stopped ahead of no peer", take(sealed(key(1), 1, headOf(pkData, 8, 4, 34), text)), api.ErrDown)
		}
	}
}

// P20.6: sessions of several peers beside one another: what one takes, answers and opens leaves the others as they are.
func TestTakeBeside(t *testing.T) {
	b := lively(t)
	was := map[int]api.View{}
	look := func(but int) {
		t.Helper()
		for _, link := range []int{7, 8, 9} {
			v, _ := b.n.View(link)
			if link != but && !sameView(v, was[link]) {
				t.Fatalf("a call for %d has changed %d: %+v, %+v", but, link, was[link], v)
			}
			if link == but && sameView(v, was[link]) {
				t.Fatalf("a call for %d has not changed it", but)
			}
			was[link] = v
		}
	}
	for _, link := range []int{7, 8, 9} {
		was[link], _ = b.n.View(link)
	}
	for round := range 4 {
		for _, link := range []int{9, 7, 8} {
			own := fmt.Sprintf("10.%d.0.1", link)
			p, _ := b.p.peer(link)
			cur := b.p.lane(p.Key).Cur
			b.wantTaken(t, "data", b.from(pkData, link, cur, 70, pay(own, "1.1.1.1", "x")), api.TkDelivered, link)
			look(link)
			b.ok(t, send(pay("1.1.1.1", own, "x")))
			look(link)
			b.ok(t, rekey(link))
			look(link)
			gen := b.p.lane(p.Key).Next
			b.wantTaken(t, "a reply", b.from(pkReply, link, gen, 0, stampBytes(stampOf(5, 2+round))), api.TkOpened, link)
			look(link)
			b.wantTaken(t, "an init", b.from(pkInit, link, gen+3, 0, stampBytes(stampOf(6, round))), api.TkAnswered, link)
			look(link)
		}
	}
}

// P20.3 to P20.6 between two nodes that give one another all that they make. Behind a Boot a new generation is opened: of the one that it found nothing below the ceiling is taken any more.
func TestTakeTalk(t *testing.T) {
	n := fresh(t, 64, params(4, 64), add(7, key(1), 0), allow(7, "10.1.0.0/16"), add(8, key(2), 1), allow(8, "10.2.0.0/16"))
	m := fresh(t, 64, params(9, 128), add(7, key(1), 1), allow(7, "10.0.0.0/16"), add(8, key(2), 0), allow(8, "10.3.0.0/16"))
	opens := func(from, to *both, link, sec int) {
		t.Helper()
		from.ok(t, tick(stampOf(sec, 0)))
		r := to.wantTaken(t, "an init", from.ok(t, rekey(link)).packet, api.TkAnswered, link)
		from.wantTaken(t, "a reply", r, api.TkOpened, link)
	}
	for round := range 20 {
		for link, x := range map[int][2]string{7: {"10.0.0.1", "10.1.0.1"}, 8: {"10.3.0.1", "10.2.0.1"}} {
			there, back := pay(x[0], x[1], fmt.Sprint(round)), pay(x[1], x[0], fmt.Sprint(round))
			m.wantDelivered(t, "there", n.ok(t, send(there)).packet, link, there)
			n.wantDelivered(t, "back", m.ok(t, send(back)).packet, link, back)
			switch round % 4 {
			case 1:
				opens(n, m, link, 2*round)
			case 3:
				opens(m, n, link, 2*round)
			}
		}
		if round%7 == 6 {
			wantErr(t, "Boot", n.boot(t, params(round+1, 64)), api.OK)
			opens(n, m, 7, 2*round+1)
			opens(n, m, 8, 2*round+1)
		}
	}
}
