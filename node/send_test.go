package node_test

import (
	"bytes"
	"fmt"
	"slices"
	"testing"

	"culvert/api"
	"culvert/disk"
)

// noPayloads are bytes that are no payload.
func noPayloads() [][]byte {
	four, six := pay("10.7.0.1", "10.7.0.2", ""), pay("fd00::1", "fd00::2", "")
	out := [][]byte{nil, {}, {4}, {6}, {0}, {5}, four[:8], six[:32], append([]byte{5}, four[1:]...), append([]byte{0}, six[1:]...), append([]byte{6}, four[1:]...)}
	return append(out, append(slices.Clone(four), make([]byte, 1272)...), append(slices.Clone(six), make([]byte, 1248)...))
}

// P20.3: what is no payload: ErrPayload, with and without peers; the shortest and the longest that are some go out.
func TestSendPayload(t *testing.T) {
	b := fresh(t, 64, params(4, 64))
	for _, p := range noPayloads() {
		b.wantErr(t, "no peers", send(p), api.ErrPayload)
	}
	b.ok(t, commit(add(7, key(1), 0), allow(7, "0.0.0.0/0"), allow(7, "::/0")))
	for _, p := range noPayloads() {
		b.wantErr(t, "no payload", send(p), api.ErrPayload)
	}
	for i, p := range [][]byte{pay("0.0.0.0", "0.0.0.0", ""), pay("::", "::", ""), pay("10.0.0.1", "255.255.255.255", string(make([]byte, 1271))), pay("::1", "ffff::", string(make([]byte, 1247)))} {
		got := b.ok(t, send(p))
		if got.link != 7 {
			t.Fatalf("the link %d", got.link)
		}
		wantPacket(t, "a payload", got.packet, key(1), 0, headOf(pkData, 7, 1, uint64(i)), p)
	}
}

// P20.3: the link is that of the longest prefix that holds the destination; the packet is under its peer's key, with its side, generation and counter; where the source is nobody's it is not asked.
func TestSendRoute(t *testing.T) {
	peers := []api.Peer{
		peerOf(1, key(1), "10.0.0.0/8", "fd00::/16"),
		peerOf(2, key(2), "10.1.0.0/16", "10.1.2.3/32"),
		peerOf(3, key(3), "10.1.2.0/24", "fd00:1::/32"),
		peerOf(maxLink, key(4), "11.0.0.0/9", "::/0"),
	}
	lanes := []api.Lane{newLane(key(1), 0), {Key: key(2), Side: 1, Cur: 9, SendCur: 70}, {Key: key(3), Side: 0, Cur: 2, Next: 8, SendCur: 5}, newLane(key(4), 1)}
	b := over(t, laid(t, 64, 2, 9, rowsOf(peers, lanes, 0)), params(2, 64))
	next := map[int]uint64{1: 0, 2: 70, 3: 5, maxLink: 0}
	for range 3 {
		for dst, link := range map[string]int{
			"10.0.0.0": 1, "10.255.255.255": 1, "10.1.0.0": 2, "10.1.3.0": 2, "10.1.2.0": 3, "10.1.2.2": 3, "10.1.2.3": 2, "10.1.2.4": 3, "10.2.0.0": 1,
			"9.255.255.255": 0, "11.0.0.0": maxLink, "11.127.255.255": maxLink, "11.128.0.0": 0, "0.0.0.0": 0,
			"::": maxLink, "fd00::": 1, "fd00:1::": 3, "fd00:2::": 1, "fd01::": maxLink, "::10.1.2.3": maxLink,
		} {
			src := "99.99.99.99"
			if bytes.ContainsRune([]byte(dst), ':') {
				src = "9::9"
			}
			p := pay(src, dst, "x")
			if link == 0 {
				b.wantErr(t, dst, send(p), api.ErrRoute)
				continue
			}
			got := b.ok(t, send(p))
			if got.link != link {
				t.Fatalf("%s goes to %d, want %d", dst, got.link, link)
			}
			l, _ := laneAmong(lanes, b.p.peers[slices.IndexFunc(peers, func(p api.Peer) bool { return p.Link == link })].Key)
			wantPacket(t, dst, got.packet, l.Key, l.Side, headOf(pkData, link, l.Cur, next[link]), p)
			next[link]++
		}
	}
}

// P20.3: no counter left: the last one goes out, and behind it ErrCounter, for ever, also in the next life; a new generation has counters again.
func TestSendCounter(t *testing.T) {
	l := withLane(newLane(key(1), 0), func(l *api.Lane) { l.SendCur = maxCounter })
	b := over(t, laid(t, 64, 2, 9, rowsOf([]api.Peer{peerOf(7, key(1), "10.0.0.0/8")}, []api.Lane{l}, 0)), params(4, 64))
	p := pay("1.1.1.1", "10.0.0.1", "")
	wantPacket(t, "the last counter", b.wantOps(t, "the last counter", send(p), 2).packet, key(1), 0, headOf(pkData, 7, 1, maxCounter), p)
	b.wantErr(t, "no counter", send(p), api.ErrCounter)
	b.wantErr(t, "no payload comes first", send(nil), api.ErrPayload)
	b.wantErr(t, "no route comes first", send(pay("1.1.1.1", "11.0.0.1", "")), api.ErrRoute)
	wantErr(t, "Boot", b.boot(t, params(4, 64)), api.OK)
	b.wantErr(t, "no counter in the next life", send(p), api.ErrCounter)
	b.ok(t, commit(setKey(7, key(1), 0)))
	wantPacket(t, "a new generation", b.ok(t, send(p)).packet, key(1), 0, headOf(pkData, 7, 2, 0), p)
}

// noSeqs is a device with this state on which a Boot takes the last seq.
func noSeqs(t *testing.T, peers []api.Peer, lanes []api.Lane) *disk.Disk {
	t.Helper()
	return laid(t, 64, 2, maxSeq, rowsOf(peers, lanes, 0))
}

// P20.3: ErrSeqs where a reservation has no seq left; ErrDevice where the device refuses it; the errors ahead of them first; what was reserved goes out without an operation.
func TestSendCommit(t *testing.T) {
	p, elsewhere := pay("1.1.1.1", "10.0.0.1", ""), pay("1.1.1.1", "11.0.0.1", "")
	peers := []api.Peer{peerOf(7, key(1), "10.0.0.0/8")}
	b := over(t, noSeqs(t, peers, []api.Lane{newLane(key(1), 0)}), params(4, 64))
	for range 2 {
		b.wantErr(t, "no seq", send(p), api.ErrSeqs)
		b.wantErr(t, "no payload first", send(nil), api.ErrPayload)
		b.wantErr(t, "no route first", send(elsewhere), api.ErrRoute)
	}
	b = over(t, noSeqs(t, peers, []api.Lane{withLane(newLane(key(1), 0), func(l *api.Lane) { l.SendCur = maxCounter + 1 })}), params(4, 64))
	b.wantErr(t, "no counter ahead of no seq", send(p), api.ErrCounter)

	for _, kind := range []int{power, io} {
		b = over(t, laid(t, 64, 2, 8, rowsOf(peers, []api.Lane{newLane(key(1), 0)}, 0)), params(3, 64))
		b.wantOps(t, "a reservation", send(p), 2)
		b.arm(t, fault(1, kind))
		b.wantOps(t, "reserved", send(p), 0)
		b.wantOps(t, "reserved", send(p), 0)
		b.wantErr(t, "no payload first", send(nil), api.ErrPayload)
		b.wantErr(t, "no route first", send(elsewhere), api.ErrRoute)
		b.wantErr(t, "refused", send(p), api.ErrDevice)
		b.wantErr(t, "stopped, ahead of no payload", send(nil), api.ErrDown)
		b.wantErr(t, "stopped, ahead of no route", send(elsewhere), api.ErrDown)
	}
	b = over(t, noSeqs(t, peers, []api.Lane{newLane(key(1), 0)}), params(4, 64))
	b.arm(t, fault(1, io))
	b.wantErr(t, "no seq ahead of a refusal", send(p), api.ErrSeqs)
}

// P20.3: what one peer sends leaves the others as they are: each has its own counters and reservations.
func TestSendBeside(t *testing.T) {
	b := fresh(t, 64, params(3, 64), add(1, key(1), 0), allow(1, "10.1.0.0/16"), add(2, key(2), 1), allow(2, "10.2.0.0/16"), add(3, key(3), 0), allow(3, "10.3.0.0/16"))
	next := map[int]uint64{}
	for i := range 60 {
		link := 1 + i*i%7%3
		p := pay("1.1.1.1", fmt.Sprintf("10.%d.0.1", link), "x")
		ops := 0
		if next[link]%3 == 0 {
			ops = 2
		}
		if next[link] > 0 && ops == 2 && b.p.store != nil { // a checkpoint may come, where the region is full
			if _, _, place := b.p.store.State(); place == 31 {
				ops += 4
			}
		}
		got := b.wantOps(t, "beside", send(p), ops)
		wantPacket(t, "beside", got.packet, key(link), (link+1)%2, headOf(pkData, link, 1, next[link]), p)
		next[link]++
	}
	if next[1] < 5 || next[2] < 5 || next[3] < 5 {
		t.Fatalf("%v", next)
	}
}
