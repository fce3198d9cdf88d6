package audit_test

import (
	"fmt"
	"testing"

	"culvert/api"
	"culvert/disk"
	"culvert/node"
)

// act is something that is asked of a node.
type act struct {
	what string
	do   func(n *node.Node) api.Errno
}

// matched are the lasting bytes of two devices whose nodes have matching peers of the links 1 to 3, and packets of the node 1 for the node 0: data, an init, and the reply to an init of the node 0.
type matched struct {
	bytes [2][]byte
	place int // of the log of the node 0
	init  []byte
}

// newMatched lays them down. The log of the node 0 has gone on by so many transactions more.
func newMatched(t *testing.T, sectors, more int) matched {
	t.Helper()
	var m matched
	for a := range 2 {
		d := formatted(t, sectors)
		n := boot(t, d, params(1, 64))
		for link := 1; link <= 3; link++ {
			wantErr(t, "Commit", n.Commit([]api.Change{add(link, key(link), a), allow(link, fmt.Sprintf("10.%d.0.0/16", 2*link+1-a))}), api.OK)
		}
		if a == 0 {
			for i := range more {
				wantErr(t, "Commit", n.Commit([]api.Change{[]api.Change{allow(2, "fd00::/16"), deny(2, "fd00::/16")}[i%2]}), api.OK)
			}
			m.place = plainPlace(imageOf(d.Durable()))
		}
		m.bytes[a] = d.Durable()
	}
	return m
}

// plainPlace is where the log stands: how many places of its region are used.
func plainPlace(m image) int {
	l := plainLog(m)
	place := plainPieces(len(l.state))
	for _, tx := range l.txs {
		place += len(txSectors(1, 1, 0, []byte(tx)))
	}
	return place
}

// acts are all that a node can be asked that writes. What comes from the other node is made anew for each, by a node over its bytes.
func (m matched) acts(t *testing.T) []act {
	other := func() *node.Node { return boot(t, imaged(t, m.bytes[1]), params(1, 64)) }
	var wide []api.Change
	for i := range 13 {
		wide = append(wide, add(4+i, key(40+i), i%2))
	}
	payload := func(a int) []byte { return []byte{4, 10, byte(2 + a), 0, 1, 10, byte(2 + 1 - a), 0, 2, 7} }
	return []act{
		{"Commit of one sector", func(n *node.Node) api.Errno { return n.Commit([]api.Change{allow(1, "10.9.0.0/16")}) }},
		{"Commit of pieces", func(n *node.Node) api.Errno { return n.Commit(wide[:5]) }},
		{"Commit of more pieces", func(n *node.Node) api.Errno { return n.Commit(wide) }},
		{"Commit of nothing", func(n *node.Node) api.Errno { return n.Commit(nil) }},
		{"Commit that is refused", func(n *node.Node) api.Errno { return n.Commit([]api.Change{add(1, key(9), 0)}) }},
		{"Send", func(n *node.Node) api.Errno { _, _, e := n.Send(payload(0)); return e }},
		{"Rekey", func(n *node.Node) api.Errno { _, e := n.Rekey(1); return e }},
		{"Take of data", func(n *node.Node) api.Errno {
			_, b, e := other().Send(payload(1))
			wantErr(t, "Send", e, api.OK)
			_, e = n.Take(b)
			return e
		}},
		{"Take of an init", func(n *node.Node) api.Errno {
			b, e := other().Rekey(1)
			wantErr(t, "Rekey", e, api.OK)
			_, e = n.Take(b)
			return e
		}},
		{"Rekey and its reply", func(n *node.Node) api.Errno {
			b, e := n.Rekey(1)
			if e != api.OK {
				return e
			}
			taken, e := other().Take(b)
			wantErr(t, "Take", e, api.OK)
			_, e = n.Take(taken.Data)
			return e
		}},
	}
}

// wantAllSurvivors: whichever of the writes that pend survive, the bytes that are left are sound, and State is what a Boot finds.
func wantAllSurvivors(t *testing.T, what string, d *disk.Disk) int {
	t.Helper()
	pending := d.Pending()
	if len(pending) > 9 {
		t.Fatalf("%s: %d writes pend", what, len(pending))
	}
	durable := imageOf(d.Durable())
	for mask := range 1 << len(pending) {
		m := durable.clone()
		for i, w := range pending {
			if mask>>i&1 > 0 {
				m[w.Sector] = w.Data
			}
		}
		b := m.bytes()
		if got := checkOf(b); !got.same(checked{}) {
			t.Fatalf("%s, of the writes that pend survive %b: Check = %q, %d", what, mask, got.lines, got.err)
		}
		if mask%7 == 0 {
			wantBoot(t, what, b, params(1, 64))
		}
	}
	return len(pending)
}

// P24.4, P24.5: each act, Boot among them, each operation of it refused or the power gone at it, any of what pends surviving; where the log has room for it and where it must turn. Then another Boot, over what was left with and without a crash, and the act once more.
func TestEachOperationRefused(t *testing.T) {
	t.Parallel()
	for _, c := range []struct{ sectors, more int }{{32, 1}, {32, 8}, {32, 10}, {32, 22}, {33, 10}} {
		t.Run(fmt.Sprintf("%d sectors, %d more", c.sectors, c.more), func(t *testing.T) {
			t.Parallel()
			m := newMatched(t, c.sectors, c.more)
			for _, a := range m.acts(t) {
				m.refuseEach(t, a)
			}
		})
	}
}

// refuseEach does an act behind a Boot as often as there are operations to be refused, and once without.
func (m matched) refuseEach(t *testing.T, a act) {
	t.Helper()
	for at := 1; ; at++ {
		refused := false
		for _, kind := range []int{power, io} {
			d := imaged(t, m.bytes[0])
			what := fmt.Sprintf("%s at the place %d, refused by %d at %d", a.what, m.place, kind, at)
			arm(t, d, fault(at, kind))
			n, e := node.Boot(d, params(1, 64))
			if e == api.OK {
				wantAllSurvivors(t, what+", behind Boot", d)
				e = a.do(n)
			}
			refused = refused || e == api.ErrDevice
			if d.Done() < at && e == api.ErrDevice {
				t.Fatalf("%s: refused without an operation", what)
			}
			wantAllSurvivors(t, what, d)
			if !d.Power() {
				d.Crash([]bool{true, false, true, false, true})
			}
			arm(t, d)
			n = boot(t, d, params(2, 128))
			wantAllSurvivors(t, what+", and another Boot", d)
			a.do(n)
			wantAllSurvivors(t, what+", and once more", d)
		}
		if !refused {
			return
		}
	}
}

// P24.4: a store that has become full, in whichever way, is sound; and so it is through all that goes on over it.
func TestFullStore(t *testing.T) {
	t.Parallel()
	for _, sectors := range []int{32, 33, 34} {
		d := formatted(t, sectors)
		n := boot(t, d, params(1, 64))
		full, commits := 0, 0
		for i := 0; full < 20 && i < 400; i++ {
			link := i%16 + 1
			e := n.Commit([]api.Change{pick(newSampler(uint64(i)), add(link, key(link), 0), allow(link, fmt.Sprintf("fd00:%x::/32", i)), setKey(link, key(link+16), 1))})
			switch e {
			case api.OK:
				commits++
			case api.ErrFull:
				full++
			}
			wantSound(t, "a store that becomes full", d.Durable())
		}
		if full < 20 || commits < 10 {
			t.Fatalf("%d commits were refused for want of room, %d were done", full, commits)
		}
		for i := range 60 {
			_, _, e := n.Send([]byte{6, 0xfd, 0, 0, byte(i), 15: 0, 32: 0})
			if e != api.OK && e != api.ErrRoute {
				t.Fatalf("Send = %d", e)
			}
			_, e = n.Rekey(i%16 + 1)
			if e != api.OK && e != api.ErrNoPeer && e != api.ErrClock {
				t.Fatalf("Rekey = %d", e)
			}
			wantErr(t, "Tick", n.Tick(api.Stamp{Sec: i + 1}), api.OK)
			wantSound(t, "a full store", d.Durable())
		}
		wantBoot(t, "a full store", d.Durable(), params(1, 64))
	}
}

// P24.4: many Boots, each refused at another operation, over one device: what pended goes over from one to the next.
func TestManyBoots(t *testing.T) {
	t.Parallel()
	for _, crash := range []bool{false, true} {
		m := newMatched(t, 32, 3)
		d := imaged(t, m.bytes[0])
		boots := 1
		for i := range 60 {
			arm(t, d, fault(1+i%40, io), fault(41+i%7, power))
			if n, e := node.Boot(d, params(1, 64)); e == api.OK {
				if n.Boots() <= boots {
					t.Fatalf("%d boots behind %d", n.Boots(), boots)
				}
				boots = n.Boots()
			}
			wantAllSurvivors(t, "many Boots", d)
			if crash || !d.Power() {
				d.Crash([]bool{i%2 == 0})
			}
		}
		if boots < 20 {
			t.Fatalf("%d boots", boots)
		}
	}
}
