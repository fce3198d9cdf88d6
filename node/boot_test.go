package node_test

import (
	"bytes"
	"fmt"
	"math"
	"slices"
	"testing"

	"culvert/api"
	"culvert/disk"
	"culvert/node"
	"culvert/rows"
	"culvert/store"
)

// wantNoBoot: this error and no node.
func wantNoBoot(t *testing.T, what string, d *disk.Disk, p api.Params, want api.Errno) {
	t.Helper()
	if n, e := node.Boot(d, p); n != nil || e != want {
		t.Fatalf("%s: Boot = %v, %d, want none and %d", what, n != nil, e, want)
	}
}

// off turns a device's power off.
func off(t *testing.T, d *disk.Disk) {
	t.Helper()
	arm(t, d, fault(1, power))
	wantErr(t, "Flush", d.Flush(), api.ErrPower)
}

// P20.1: all of these blocks with all of these widths; what may not be takes no claim and does no operation, whatever the device is.
func TestBootParams(t *testing.T) {
	blocks := map[int]bool{math.MinInt: false, -1: false, 0: false, 1: true, 2: true, 64: true, maxBlock - 1: true, maxBlock: true, maxBlock + 1: false, 1 << 32: false, 1<<32 + 1: false, math.MaxInt: false}
	widths := map[int]bool{math.MinInt: false, -1024: false, -64: false, 0: false, 1: false, 32: false, 63: false, 64: true, 65: false, 96: false, 100: false, 128: true, 192: true, 512: true, 960: true, 992: false, 1000: false, 1023: false, 1024: true, 1025: false, 1088: false, 2048: false, 1<<32 + 64: false, math.MaxInt: false, math.MaxInt - 63: false}
	noStore, dark := disk.New(32), formatted(t, 32)
	off(t, dark)
	for block, isBlock := range blocks {
		for width, isWidth := range widths {
			p := params(block, width)
			what := fmt.Sprintf("Block %d, Width %d", block, width)
			if isBlock && isWidth {
				d := formatted(t, 32)
				n, e := node.Boot(d, p)
				if n == nil || e != api.OK || d.Claimed() != 1 {
					t.Fatalf("%s: Boot = %v, %d", what, n != nil, e)
				}
				continue
			}
			for _, d := range []*disk.Disk{formatted(t, 32), noStore, dark} {
				stood := standOf(d)
				wantNoBoot(t, what, d, p, api.ErrParams)
				wantStand(t, what, d, stood)
			}
		}
	}
}

// P20.1, stopped: a Boot with such params takes no claim, so that the node that lives goes on.
func TestBootParamsStopNobody(t *testing.T) {
	b := fresh(t, 32, params(4, 64), add(7, key(1), 0), allow(7, "10.1.0.0/16"))
	for _, p := range []api.Params{params(0, 64), params(4, 65)} {
		wantNoBoot(t, "no params", b.d, p, api.ErrParams)
		b.look(t)
		b.ok(t, send(pay("10.0.0.1", "10.1.0.1", "x")))
	}
}

// P20.1: the params are those of the sessions: of the first ones and of those that a Commit makes.
func TestBootParamsAreTheSessions(t *testing.T) {
	for _, x := range []struct {
		block, width int
		at           uint64 // as far as two sends and an acceptance of the counter 0 reserve
	}{{1, 64, 1}, {5, 128, 5}, {maxBlock, 1024, maxBlock}} {
		b := over(t, laid(t, 32, 1, 1, rowsOf([]api.Peer{peerOf(7, key(1), "10.0.0.0/8")}, []api.Lane{newLane(key(1), 0)}, 3)), params(x.block, x.width))
		b.ok(t, commit(add(8, key(2), 1), allow(8, "11.0.0.0/8")))
		for link, net := range map[int]string{7: "10", 8: "11"} {
			from := net + ".0.0.1"
			b.ok(t, send(pay("1.1.1.1", from, "x")))
			b.wantDelivered(t, "the counter 0", b.from(pkData, link, 1, 0, pay(from, "1.1.1.1", "")), link, pay(from, "1.1.1.1", ""))
			p, _ := b.p.peer(link)
			if l := b.p.lane(p.Key); l.SendCur != x.at || l.Ceil != x.at {
				t.Fatalf("Block %d: %+v", x.block, l)
			}
			top := uint64(5000)
			b.ok(t, take(b.from(pkData, link, 1, top, pay(from, "1.1.1.1", ""))))
			b.wantDrop(t, "the width below the top", b.from(pkData, link, 1, top-uint64(x.width), pay(from, "1.1.1.1", "")), api.DropReplay)
			b.wantTaken(t, "one above that", b.from(pkData, link, 1, top-uint64(x.width)+1, pay(from, "1.1.1.1", "")), api.TkDelivered, link)
		}
	}
}

// P20.1: a device that is no store: ErrNoStore; a claim has been taken.
func TestBootNoStore(t *testing.T) {
	flipped := formatted(t, 32).Durable()
	flipped[512+20] ^= 1
	broken, e := disk.Image(flipped)
	wantErr(t, "Image", e, api.OK)
	other, e := disk.Image(append(formatted(t, 32).Durable(), make([]byte, 1024)...))
	wantErr(t, "Image", e, api.OK)
	for what, d := range map[string]*disk.Disk{"zeros": disk.New(32), "a superblock with a bit turned": broken, "another number of sectors": other} {
		stood := standOf(d)
		stood.claimed, stood.done = 1, 2
		wantNoBoot(t, what, d, params(1, 64), api.ErrNoStore)
		wantStand(t, what, d, stood)
	}
}

// states are devices of many kinds, with what stands there.
func states(t *testing.T) map[string]*disk.Disk {
	t.Helper()
	l := withLane(newLane(key(1), 0), func(l *api.Lane) { l.SendCur, l.Ceil = 40, 9 })
	some := rowsOf([]api.Peer{peerOf(7, key(1), "10.0.0.0/8")}, []api.Lane{l, newLane(key(2), 1)}, 12)
	lived := fresh(t, 32, params(2, 64), add(7, key(1), 0), allow(7, "10.1.0.0/16"))
	for range 5 {
		lived.ok(t, send(pay("10.0.0.1", "10.1.0.1", "x")))
	}
	return map[string]*disk.Disk{
		"no rows":                         formatted(t, 32),
		"an odd number of sectors":        formatted(t, 33),
		"rows":                            laid(t, 32, 2, 9, some),
		"no row of the boots":             laid(t, 64, 5, 9, some[1:]),
		"transactions":                    laid(t, 32, 3, 100, some, flips(4, l)...),
		"a region with one place left":    laid(t, 32, 3, 100, some, flips(13, l)...),
		"a full region":                   laid(t, 32, 3, 100, some, flips(14, l)...),
		"the last seq":                    laid(t, 32, 3, maxSeq, some),
		"the last epoch, and a place":     laid(t, 32, maxSeq, 7, some, flips(13, l)...),
		"the last epoch but one, no room": laid(t, 32, maxSeq-1, 7, some, flips(14, l)...),
		"a node has lived":                lived.d,
	}
}

// P20.1: each operation of a Boot refused by itself: ErrDevice and no node, and nothing else is done; with nothing refused the Boot answers OK.
func TestBootRefused(t *testing.T) {
	for what, d := range states(t) {
		whole := over(t, twin(t, d), params(4, 64))
		ops := whole.d.Done()
		if ops < 5 {
			t.Fatalf("%s: %d operations", what, ops)
		}
		for k := 1; k <= ops; k++ {
			for _, kind := range []int{power, io} {
				b := &both{d: twin(t, d), pd: twin(t, d)}
				b.arm(t, fault(k, kind))
				wantErr(t, fmt.Sprintf("%s: the operation %d meets %d", what, k, kind), b.boot(t, params(4, 64)), api.ErrDevice)
				if b.d.Done() != k || b.d.Power() != (kind == io) || b.d.Claimed() != d.Claimed()+1 {
					t.Fatalf("%s: behind the refusal of %d: %v", what, k, standOf(b.d))
				}
			}
		}
		dark := twin(t, d)
		off(t, dark)
		stood := standOf(dark)
		stood.claimed++
		wantNoBoot(t, what+", the power is off", dark, params(4, 64), api.ErrDevice)
		wantStand(t, what+", the power is off", dark, stood)
	}
}

// with are rows with further ones.
func with(l []api.Row, more ...api.Row) []api.Row {
	out := append(slices.Clone(l), more...)
	slices.SortStableFunc(out, func(a, b api.Row) int { return bytes.Compare(a.Key, b.Key) })
	return out
}

func row(key, value string) api.Row { return api.Row{Key: []byte(key), Value: []byte(value)} }

// noStates are rows that a store may have and that are no state.
func noStates() map[string][]api.Row {
	peers := []api.Peer{peerOf(7, key(1), "10.0.0.0/8")}
	lanes := []api.Lane{newLane(key(1), 0), newLane(key(2), 1)}
	good := rowsOf(peers, lanes, 3)
	var manyPeers []api.Peer
	var manyLanes []api.Lane
	for i := range 33 {
		if i < 17 {
			manyPeers = append(manyPeers, peerOf(i+1, key(i)))
		}
		manyLanes = append(manyLanes, newLane(key(i), 0))
	}
	return map[string][]api.Row{
		"a row of nothing":              with(good, row("X", "y")),
		"a peer's row with a byte less": with(rowsOf(nil, lanes, 3), row("P\x00\x00\x00\x07", string(key(1)))),
		"a lane's row with a byte more": with(rowsOf(nil, lanes[:1], 3), row("L"+string(key(2)), string(make([]byte, 38)))),
		"boots of seven bytes":          with(rowsOf(peers, lanes, -1), row("B", "1234567")),
		"boots beyond the bound":        with(rowsOf(peers, lanes, -1), row("B", "\x40\x00\x00\x00\x00\x00\x00\x01")),
		"boots below 0":                 with(rowsOf(peers, lanes, -1), row("B", "\xFF\xFF\xFF\xFF\xFF\xFF\xFF\xFF")),
		"a peer without a lane":         rowsOf(peers, lanes[1:], 3),
		"two peers with one key":        rowsOf(append(slices.Clone(peers), peerOf(8, key(1))), lanes, 3),
		"two peers with one prefix":     rowsOf(append(slices.Clone(peers), peerOf(8, key(2), "10.0.0.0/8")), lanes, 3),
		"17 peers":                      rowsOf(manyPeers, manyLanes[:17], 3),
		"33 lanes":                      rowsOf(nil, manyLanes, 3),
	}
}

// P20.1: rows that are no state: ErrRow; what Boot did is what it read, and its flush.
func TestBootNoState(t *testing.T) {
	for what, l := range noStates() {
		for _, sectors := range []int{64, 256} {
			d := laid(t, sectors, 4, 6, l)
			s, e := store.Open(twin(t, d))
			if s == nil || e != api.OK || len(s.Rows()) != len(l) {
				t.Fatalf("%s: it is no store: %d", what, e)
			}
			stood := standOf(d)
			stood.claimed, stood.done = 1, 2+(len(bytesOf(l))+479)/480+1+1
			wantNoBoot(t, what, d, params(4, 64), api.ErrRow)
			wantStand(t, what, d, stood)
		}
	}
	d := laidBytes(t, 32, 1, 1, []byte("no table"))
	stood := standOf(d)
	stood.claimed, stood.done = 1, 4 // no flush
	wantNoBoot(t, "a checkpoint that is no table", d, params(4, 64), api.ErrRow)
	wantStand(t, "a checkpoint that is no table", d, stood)
	wantNoBoot(t, "a transaction that is none", laidBytes(t, 32, 1, 1, nil, []byte("none")), params(4, 64), api.ErrRow)
}

// P20.1: the boots at MaxSeq are ErrSeqs, one below them they become MaxSeq.
func TestBootsAtTheEnd(t *testing.T) {
	lanes := []api.Lane{newLane(key(1), 0)}
	d := laid(t, 32, 4, 6, rowsOf(nil, lanes, maxSeq))
	stood := standOf(d)
	stood.claimed, stood.done = 1, 5 // two superblocks, a piece, the end of the log, the flush
	wantNoBoot(t, "boots at MaxSeq", d, params(4, 64), api.ErrSeqs)
	wantStand(t, "boots at MaxSeq", d, stood)

	b := over(t, laid(t, 32, 4, 6, rowsOf(nil, lanes, maxSeq-1)), params(4, 64))
	if b.n.Boots() != maxSeq {
		t.Fatalf("Boots() = %d", b.n.Boots())
	}
	wantErr(t, "the next Boot", b.boot(t, params(4, 64)), api.ErrSeqs)
}

// P20.1: what pended lasts behind a Boot whose boots are at MaxSeq (P0.12): its flush has been done.
func TestBootsAtTheEndFlush(t *testing.T) {
	d := laid(t, 32, 4, 6, rowsOf(nil, nil, maxSeq))
	wantErr(t, "Write", d.Write(31, bytes.Repeat([]byte{9}, 512)), api.OK)
	wantNoBoot(t, "boots at MaxSeq", d, params(4, 64), api.ErrSeqs)
	if len(d.Pending()) != 0 || d.Durable()[31*512] != 9 {
		t.Fatal("what pended does not last")
	}
}

// P20.1: the log's own numbers: the last seq goes to a Boot, and the next one finds none; the last epoch is enough as long as no checkpoint is needed.
func TestBootSeqs(t *testing.T) {
	l := newLane(key(1), 0)
	some := rowsOf(nil, []api.Lane{l}, 3)
	b := over(t, laid(t, 32, 3, maxSeq, some), params(4, 64))
	if b.n.Boots() != 4 {
		t.Fatalf("Boots() = %d", b.n.Boots())
	}
	wantErr(t, "the next Boot", b.boot(t, params(4, 64)), api.ErrSeqs)

	b = over(t, laid(t, 32, maxSeq, 7, some, flips(13, l)...), params(4, 64))
	if b.n.Boots() != 4 {
		t.Fatalf("Boots() = %d", b.n.Boots())
	}
	reads := 2 + 1 + 14 // superblocks, a piece, 14 transactions
	stood := standOf(b.d)
	stood.claimed++
	stood.done += reads + 1
	wantErr(t, "the next Boot needs a checkpoint", b.boot(t, params(4, 64)), api.ErrSeqs)
	wantStand(t, "the next Boot needs a checkpoint", b.d, stood)
}

// fullRows are rows without boots that no node has written: just so many that the boots have no room beside them on a device of 32 sectors; with few bytes less they have.
func fullRows() (full, less []api.Row) {
	var lanes []api.Lane
	for i := range 25 {
		lanes = append(lanes, newLane(key(i), 0))
	}
	return rowsOf([]api.Peer{peerOf(7, key(1), "fd00::/16")}, lanes, -1), rowsOf([]api.Peer{peerOf(7, key(1), "10.0.0.0/8")}, lanes, -1)
}

func bootsSet(n int) api.Set { return setsOf(rowsOf(nil, nil, n))[0] }

// P20.1: a store that is full: ErrFull, and nothing was written.
func TestBootFull(t *testing.T) {
	full, least := fullRows()
	if x, y := len(bytesOf(full)), len(bytesOf(least)); x != 1910 || y != 1898 {
		t.Fatalf("%d and %d bytes", x, y)
	}
	d := laid(t, 32, 3, 7, full)
	stood := standOf(d)
	stood.claimed, stood.done = 1, 2+4+1+1
	wantNoBoot(t, "a full store", d, params(4, 64), api.ErrFull)
	wantStand(t, "a full store", d, stood)
	over(t, laid(t, 32, 3, 7, least), params(4, 64))
	over(t, laid(t, 34, 3, 7, full), params(4, 64))
}

// P20.1: which of two errors comes first.
func TestBootWhichFirst(t *testing.T) {
	full, _ := fullRows()
	l := newLane(key(0), 0)
	noState := noStates()["a row of nothing"]
	for what, x := range map[string]struct {
		d    *disk.Disk
		p    api.Params
		at   int // what is armed; 0 is nothing
		want api.Errno
	}{
		"no params, no store":                      {disk.New(32), params(0, 64), 0, api.ErrParams},
		"no params, a refusal":                     {formatted(t, 32), params(1, 0), 1, api.ErrParams},
		"no params, rows that are no state":        {laid(t, 32, 1, 1, noState), params(maxBlock+1, 64), 0, api.ErrParams},
		"no params, boots at MaxSeq":               {laid(t, 32, 1, 1, rowsOf(nil, nil, maxSeq)), params(1, 63), 0, api.ErrParams},
		"no params, a full store":                  {laid(t, 32, 1, 1, full), params(1, 63), 0, api.ErrParams},
		"no store, a refusal at the last read":     {disk.New(32), params(1, 64), 2, api.ErrDevice},
		"no store, a refusal behind it":            {disk.New(32), params(1, 64), 3, api.ErrNoStore},
		"no state, the flush refused":              {laid(t, 32, 1, 1, noState), params(1, 64), 5, api.ErrDevice},
		"no state, a write refused":                {laid(t, 32, 1, 1, noState), params(1, 64), 6, api.ErrRow},
		"no state, boots at MaxSeq":                {laid(t, 32, 1, 1, with(rowsOf(nil, nil, maxSeq), row("X", ""))), params(1, 64), 0, api.ErrRow},
		"no state, no seq left":                    {laid(t, 32, 1, maxSeq, noState, flips(1, l)...), params(1, 64), 0, api.ErrSeqs}, // store.Open's
		"no state, a full store":                   {laid(t, 32, 1, 1, with(full, row("X", ""))), params(1, 64), 0, api.ErrRow},
		"boots at MaxSeq, a full store":            {laid(t, 32, 1, 1, full, bootsSet(maxSeq)), params(1, 64), 0, api.ErrSeqs},
		"boots below that, a full store":           {laid(t, 32, 1, 1, full, bootsSet(maxSeq-1)), params(1, 64), 0, api.ErrFull},
		"boots at MaxSeq, the flush refused":       {laid(t, 32, 1, 1, rowsOf(nil, nil, maxSeq)), params(1, 64), 5, api.ErrDevice},
		"boots at MaxSeq, a write refused":         {laid(t, 32, 1, 1, rowsOf(nil, nil, maxSeq)), params(1, 64), 6, api.ErrSeqs},
		"the last epoch, a full store":             {laid(t, 32, maxSeq, 1, full, flips(11, l)...), params(1, 64), 0, api.ErrSeqs},
		"a full store, a write refused":            {laid(t, 32, 1, 1, full), params(1, 64), 9, api.ErrFull},
		"a full store, the flush refused":          {laid(t, 32, 1, 1, full), params(1, 64), 8, api.ErrDevice},
		"the last epoch, a write refused":          {laid(t, 32, maxSeq, 1, rowsOf(nil, []api.Lane{l}, 2), flips(14, l)...), params(1, 64), 19, api.ErrSeqs},
		"nothing, a refusal behind the last flush": {formatted(t, 32), params(1, 64), 7, api.OK},
	} {
		for _, kind := range []int{power, io} {
			b := &both{d: twin(t, x.d), pd: twin(t, x.d)}
			if x.at > 0 {
				b.arm(t, fault(x.at, kind))
			}
			wantErr(t, what, b.boot(t, x.p), x.want)
		}
	}
}

// P20.1: what a new node has: the peers and lanes of the rows, one boot more, sessions that begin at what the lanes say, the route of all prefixes.
func TestBootFinds(t *testing.T) {
	peers := []api.Peer{peerOf(1, key(9), "10.0.0.0/8", "10.1.2.0/24"), peerOf(7, key(1), "10.1.0.0/16", "fd00::/16"), peerOf(maxLink, key(4))}
	lanes := []api.Lane{
		{Key: key(1), Side: 1, Cur: 5, Next: 9, SendCur: 1000, Ceil: 77, Seen: stampOf(8, 1)},
		{Key: key(4), Side: 0, Cur: maxGen, Next: maxGen, SendCur: maxCounter + 1, Ceil: maxCounter + 1, Seen: greatest()},
		{Key: key(6), Side: 0, Cur: 2, SendCur: 3},
		{Key: key(9), Side: 0, Cur: 1},
	}
	b := over(t, laid(t, 32, 2, 9, rowsOf(peers, lanes, 41)), params(4, 64))
	b.wantPeers(t, "a new node", peers...)
	b.wantLanes(t, "a new node", lanes...)
	if b.n.Boots() != 42 || b.n.Down() || b.n.Why() != nil {
		t.Fatalf("Boots() = %d, Down() = %v, Why() = %v", b.n.Boots(), b.n.Down(), b.n.Why())
	}
	b.wantView(t, "the peer 1", 1, api.View{})
	b.wantView(t, "the peer 7", 7, api.View{At: 1000, Floor: 77})
	b.wantView(t, "the last peer", maxLink, api.View{At: maxCounter + 1, Floor: maxCounter + 1})
	for dst, want := range map[string]int{"10.9.9.9": 1, "10.1.9.9": 7, "10.1.2.9": 1} {
		if got := b.ok(t, send(pay("1.2.3.4", dst, "x"))); got.link != want {
			t.Fatalf("%s goes to %d, want %d", dst, got.link, want)
		}
	}
	if got := b.ok(t, send(pay("fd11::1", "fd00::5", "x"))); got.link != 7 {
		t.Fatalf("fd00::5 goes to %d", got.link)
	}
	got, _, boots, e := rows.State(mustOpen(t, twin(t, b.d)).Rows())
	if e != api.OK || boots != 42 || !slices.EqualFunc(got, peers, samePeer) {
		t.Fatalf("the device has the boots %d, %d", boots, e)
	}
}

func mustOpen(t *testing.T, d *disk.Disk) *store.Store {
	t.Helper()
	s, e := store.Open(d)
	wantErr(t, "store.Open", e, api.OK)
	return s
}

// P20.1: the clock of a new node is the zero stamp, whatever it was in the life ahead.
func TestBootClock(t *testing.T) {
	b := fresh(t, 32, params(4, 64), add(7, key(1), 0))
	for life := range 3 {
		wantPacket(t, "the first init of a life", b.ok(t, rekey(7)).packet, key(1), 0, headOf(pkInit, 7, 2+2*life, 0), stampBytes(stampOf(0, 1)))
		b.ok(t, tick(stampOf(1000, 5)))
		wantPacket(t, "the second", b.ok(t, rekey(7)).packet, key(1), 0, headOf(pkInit, 7, 3+2*life, 0), stampBytes(stampOf(1000, 5)))
		wantErr(t, "Boot", b.boot(t, params(4, 64)), api.OK)
	}
}

// P20.1: each Boot commits one row, the boots, one more; with and without a checkpoint.
func TestBootsCount(t *testing.T) {
	b := fresh(t, 32, params(4, 64))
	turned := 0
	for i := 2; i < 60; i++ {
		epoch, _, _ := mustOpen(t, twin(t, b.d)).State()
		wantErr(t, "Boot", b.boot(t, params(1+i, 64)), api.OK)
		if b.n.Boots() != i {
			t.Fatalf("Boots() = %d, want %d", b.n.Boots(), i)
		}
		if now, seq, _ := mustOpen(t, twin(t, b.d)).State(); now != epoch {
			turned++
		} else if seq != i+1 {
			t.Fatalf("the next seq is %d, want %d", seq, i+1)
		}
	}
	if turned < 2 {
		t.Fatalf("%d checkpoints", turned)
	}
}
