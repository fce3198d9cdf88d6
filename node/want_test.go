package node_test

import (
	"bytes"
	"errors"
	"fmt"
	"math"
	"slices"
	"testing"

	"culvert/api"
	"culvert/disk"
	"culvert/node"
)

// call is a call of a node that may change it.
type call struct {
	kind    string
	changes []api.Change
	data    []byte // the payload or the packet
	link    int
	stamp   api.Stamp
}

func commit(l ...api.Change) call { return call{kind: "Commit", changes: l} }
func send(payload []byte) call    { return call{kind: "Send", data: payload} }
func rekey(link int) call         { return call{kind: "Rekey", link: link} }
func tick(s api.Stamp) call       { return call{kind: "Tick", stamp: s} }
func take(b []byte) call          { return call{kind: "Take", data: b} }

func (c call) String() string {
	switch c.kind {
	case "Commit":
		var l []string
		for _, x := range c.changes[:min(len(c.changes), 6)] {
			l = append(l, fmt.Sprintf("{%d %d key %d %v}", x.Kind, x.Link, append(slices.Clone(x.Key), 0)[0], x.Prefix))
		}
		return fmt.Sprintf("Commit(%d: %v)", len(c.changes), l)
	case "Rekey":
		return fmt.Sprintf("Rekey(%d)", c.link)
	case "Tick":
		return fmt.Sprintf("Tick(%v)", c.stamp)
	}
	if h, ok := readHead(c.data); ok {
		return fmt.Sprintf("%s(%+v, %d bytes)", c.kind, h, len(c.data))
	}
	return fmt.Sprintf("%s(%x)", c.kind, c.data[:min(len(c.data), 40)])
}

// ledger knows lists that were handed out: each is written over at once, its spare room too, by a thing of its own, which nothing may change from then on.
type ledger struct {
	count  int
	intact []func() bool
}

func write[T any](l *ledger, list []T, mark func(n int) T, is func(a T, n int) bool) {
	if cap(list) == 0 {
		return
	}
	l.count++
	all, number := list[:cap(list)], l.count
	for i := range all {
		all[i] = mark(number)
	}
	l.intact = append(l.intact, func() bool { return !slices.ContainsFunc(all, func(x T) bool { return !is(x, number) }) })
	if len(l.intact) > 150 {
		l.intact = slices.Clone(l.intact[75:])
	}
}

func (l *ledger) bytes(b []byte) {
	write(l, b, func(n int) byte { return byte(n) }, func(x byte, n int) bool { return x == byte(n) })
}

func (l *ledger) view(v api.View) {
	write(l, v.Olds, func(n int) int { return -n }, func(x, n int) bool { return x == -n })
	write(l, v.Openings, func(n int) api.Opening { return api.Opening{Gen: -n} }, func(x api.Opening, n int) bool { return x == api.Opening{Gen: -n} })
}

func (l *ledger) peers(peers []api.Peer) {
	for _, p := range peers {
		l.bytes(p.Key)
		write(l, p.Prefixes, func(n int) api.Prefix { return api.Prefix{Bits: -n} }, func(x api.Prefix, n int) bool { return x == api.Prefix{Bits: -n} })
	}
	write(l, peers, func(n int) api.Peer { return api.Peer{Link: -n} }, func(x api.Peer, n int) bool { return samePeer(x, api.Peer{Link: -n}) })
}

func (l *ledger) lanes(lanes []api.Lane) {
	for _, one := range lanes {
		l.bytes(one.Key)
	}
	write(l, lanes, func(n int) api.Lane { return api.Lane{Cur: -n} }, func(x api.Lane, n int) bool { return sameLane(x, api.Lane{Cur: -n}) })
}

func (l *ledger) isIntact() bool {
	return !slices.ContainsFunc(l.intact, func(ok func() bool) bool { return !ok() })
}

// roomy is a copy of a list in the midst of a longer one: what lies behind it is its spare room.
func roomy[T any](l []T, filling T) (list, all []T) {
	room := slices.Repeat([]T{filling}, 40)
	all = slices.Concat(room, l, room)
	return all[40 : 40+len(l)], all
}

// handed is what a call hands in, with room around it.
type handed struct {
	data, allData       []byte
	changes, allChanges []api.Change
	keys                [][]byte // with their rooms
}

func (c call) handed() handed {
	var h handed
	h.data, h.allData = roomy(c.data, 0x77)
	h.changes, h.allChanges = roomy(c.changes, api.Change{Kind: 77})
	for i, x := range c.changes {
		key, all := roomy(x.Key, 0x77)
		h.changes[i].Key = key
		h.keys = append(h.keys, all)
	}
	return h
}

func sameChange(a, b api.Change) bool {
	return a.Kind == b.Kind && a.Link == b.Link && a.Side == b.Side && a.Prefix == b.Prefix && bytes.Equal(a.Key, b.Key)
}

func (h handed) same(o handed) bool {
	return bytes.Equal(h.allData, o.allData) && slices.EqualFunc(h.allChanges, o.allChanges, sameChange) && slices.EqualFunc(h.keys, o.keys, bytes.Equal)
}

// writeOver is what the owner of what was handed in does with it behind the call.
func (h handed) writeOver() {
	for _, b := range append(h.keys, h.allData) {
		for i := range b {
			b[i] = 0xEE
		}
	}
	for i := range h.allChanges {
		h.allChanges[i] = api.Change{Kind: -1, Link: -1, Key: []byte{1}}
	}
}

// run does the call. What is handed in is written over behind it, what is handed out at once.
func (c call) run(t *testing.T, n *node.Node, out *ledger) answer {
	t.Helper()
	var a answer
	in := c.handed()
	switch c.kind {
	case "Commit":
		a.err = n.Commit(in.changes)
	case "Send":
		a.link, a.packet, a.err = n.Send(in.data)
	case "Rekey":
		a.packet, a.err = n.Rekey(c.link)
	case "Tick":
		a.err = n.Tick(c.stamp)
	case "Take":
		a.taken, a.err = n.Take(in.data)
	}
	if !in.same(c.handed()) {
		t.Fatalf("%v: what was handed in, or what lies around it, has changed", c)
	}
	in.writeOver()
	packet, data := a.packet, a.taken.Data
	a.packet, a.taken.Data = slices.Clone(packet), slices.Clone(data)
	out.bytes(packet)
	out.bytes(data)
	return a
}

// stand is how a device stands.
type stand struct {
	durable       []byte
	pending       []api.Pending
	done, claimed int
	power         bool
}

func standOf(d *disk.Disk) stand {
	return stand{d.Durable(), d.Pending(), d.Done(), d.Claimed(), d.Power()}
}

func (s stand) same(o stand) bool {
	samePending := func(a, b api.Pending) bool { return a.Sector == b.Sector && bytes.Equal(a.Data, b.Data) }
	return bytes.Equal(s.durable, o.durable) && slices.EqualFunc(s.pending, o.pending, samePending) && s.done == o.done && s.claimed == o.claimed && s.power == o.power
}

// String tells the numbers alone.
func (s stand) String() string {
	return fmt.Sprintf("%d writes pend, %d operations, the claim %d, power %v", len(s.pending), s.done, s.claimed, s.power)
}

func wantStand(t *testing.T, what string, d *disk.Disk, want stand) {
	t.Helper()
	if got := standOf(d); !got.same(want) {
		t.Fatalf("%s: the device stands otherwise: %v, want %v", what, got, want)
	}
}

// whyOf is which of the three errors Why's is; -1, if it is none or more than one of them.
func whyOf(e error) api.Errno {
	if e == nil {
		return api.OK
	}
	out := api.OK
	for _, one := range []api.Errno{api.ErrIO, api.ErrPower, api.ErrEnded} {
		if errors.Is(e, one) {
			if out != api.OK {
				return -1
			}
			out = one
		}
	}
	if out == api.OK || e.Error() == "" || errors.Is(e, api.ErrDevice) || errors.Is(e, api.ErrDown) || errors.Is(e, api.OK) {
		return -1
	}
	return out
}

func oddLinks() []int { return []int{0, -1, math.MinInt, math.MaxInt, maxLink, maxLink + 1} }

// tellOf asks all that can be asked of a node; what is handed out is written over.
func tellOf(n *node.Node, links []int, out *ledger) told {
	a := told{boots: n.Boots(), down: n.Down(), why: whyOf(n.Why()), views: map[int]api.View{}}
	peers, lanes := n.Peers(), n.Lanes()
	for _, p := range peers {
		a.peers = append(a.peers, copiedPeer(p))
		links = append(links, p.Link)
	}
	for _, l := range lanes {
		a.lanes = append(a.lanes, withLane(l, func(*api.Lane) {}))
	}
	for _, link := range append(links, oddLinks()...) {
		v, there := n.View(link)
		if there {
			own := v
			own.Olds, own.Openings = slices.Clone(v.Olds), slices.Clone(v.Openings)
			a.views[link] = own
		} else if !sameView(v, api.View{}) {
			a.views[-link-7] = v // no other view is there
		}
		out.view(v)
	}
	out.peers(peers)
	out.lanes(lanes)
	return a
}

// both is a node with its plain form beside it, over two devices that are alike.
type both struct {
	n     *node.Node
	d     *disk.Disk
	p     *plain
	pd    *disk.Disk
	out   ledger
	steps []string
}

// over boots over a device and over a twin of it.
func over(t *testing.T, d *disk.Disk, p api.Params) *both {
	t.Helper()
	arm(t, d)
	b := &both{d: d, pd: twin(t, d)}
	wantErr(t, "Boot", b.boot(t, p), api.OK)
	return b
}

// fresh is a node over a device that was just formatted, with the changes done.
func fresh(t *testing.T, sectors int, p api.Params, l ...api.Change) *both {
	t.Helper()
	b := over(t, formatted(t, sectors), p)
	if len(l) > 0 {
		b.ok(t, commit(l...))
	}
	return b
}

func (b *both) fail(t *testing.T, format string, args ...any) {
	t.Helper()
	t.Fatalf("%s; the last steps: %v", fmt.Sprintf(format, args...), b.steps[max(0, len(b.steps)-20):])
}

// boot boots a further node over the device; with an error b has none.
func (b *both) boot(t *testing.T, p api.Params) api.Errno {
	t.Helper()
	b.steps = append(b.steps, fmt.Sprintf("Boot(%v)", p))
	n, got := node.Boot(b.d, p)
	plain, want := plainBoot(b.pd, p)
	if got != want || (n != nil) != (want == api.OK) {
		b.fail(t, "Boot = %v, %d, want %d", n != nil, got, want)
	}
	b.n, b.p = n, plain
	if n == nil {
		b.wantAlike(t)
		return got
	}
	b.look(t)
	return got
}

// arm arms both devices.
func (b *both) arm(t *testing.T, l ...api.Fault) {
	t.Helper()
	b.steps = append(b.steps, fmt.Sprintf("Arm(%v)", l))
	arm(t, b.d, l...)
	arm(t, b.pd, l...)
}

func (b *both) crash(keep []bool) {
	b.steps = append(b.steps, fmt.Sprintf("Crash(%v)", keep))
	b.d.Crash(keep)
	b.pd.Crash(keep)
	b.n, b.p = nil, nil
}

func (b *both) wantAlike(t *testing.T) {
	if got, want := standOf(b.d), standOf(b.pd); !got.same(want) {
		t.Helper()
		b.fail(t, "the device: %v, want %v, or its bytes are others", got, want)
	}
}

// look asks all that can be asked, twice: it changes nothing.
func (b *both) look(t *testing.T) told {
	b.wantAlike(t)
	want := b.p.tell()
	for range 2 {
		if got := tellOf(b.n, []int{1, 2, 7, 9}, &b.out); !sameTold(got, want) {
			t.Helper()
			b.fail(t, "told is %+v, want %+v", got, want)
		}
	}
	b.wantAlike(t)
	if !b.out.isIntact() {
		t.Helper()
		b.fail(t, "what was handed out has changed")
	}
	return want
}

// stateSize is how many bytes the state has: told by its rows' sizes.
func stateSize(a told) int {
	size := 4 + 1 + 8 + len(a.lanes)*(4+33+37)
	for _, p := range a.peers {
		size += 4 + 5 + 33
		for _, x := range p.Prefixes {
			size += 2 + map[int]int{4: 4, 6: 16}[x.Addr.Family]
		}
	}
	return size
}

// do does a call, holds it against the plain form, looks at all that can be told behind it, and holds it to P20.12 and P20.13.
func (b *both) do(t *testing.T, c call) answer {
	t.Helper()
	before, stood := b.p.tell(), standOf(b.d)
	b.steps = append(b.steps, c.String())
	got := c.run(t, b.n, &b.out)
	want := b.p.do(c)
	if !same(got, want) {
		b.fail(t, "%v = %+v, want %+v", c, got, want)
	}
	behind := b.look(t)
	if got.err != api.OK && got.err != api.ErrDevice || got.taken.Kind == api.TkDropped {
		if !sameTold(before, behind) || !stood.same(standOf(b.d)) {
			b.fail(t, "%v = %+v has changed something", c, got)
		}
	}
	if got.err == api.ErrDevice && !same(got, answer{err: api.ErrDevice}) {
		b.fail(t, "%v = %+v: more than the error", c, got)
	}
	if most := (stateSize(before)+479)/480 + 16; b.d.Done()-stood.done > most {
		b.fail(t, "%v: %d operations, at most %d may be", c, b.d.Done()-stood.done, most)
	}
	return got
}

// ok is a call that must answer OK.
func (b *both) ok(t *testing.T, c call) answer {
	t.Helper()
	got := b.do(t, c)
	if got.err != api.OK {
		b.fail(t, "%v = %+v", c, got)
	}
	return got
}

// wantErr: this error and nothing else; no operation is done, unless it is ErrDevice.
func (b *both) wantErr(t *testing.T, what string, c call, e api.Errno) {
	t.Helper()
	stood := standOf(b.d)
	if got := b.do(t, c); !same(got, answer{err: e}) {
		b.fail(t, "%s: %v = %+v, want the error %d", what, c, got, e)
	}
	if e != api.ErrDevice {
		wantStand(t, what, b.d, stood)
	}
}

// wantOps: OK, and so many operations.
func (b *both) wantOps(t *testing.T, what string, c call, ops int) answer {
	t.Helper()
	done := b.d.Done()
	got := b.ok(t, c)
	if did := b.d.Done() - done; did != ops {
		b.fail(t, "%s: %v: %d operations, want %d", what, c, did, ops)
	}
	return got
}

// wantDrop: this code and nothing else.
func (b *both) wantDrop(t *testing.T, what string, packet []byte, code api.Errno) {
	t.Helper()
	if got := b.do(t, take(packet)); !same(got, answer{taken: api.Taken{Kind: api.TkDropped, Code: code}}) {
		b.fail(t, "%s: %+v, want a packet dropped by %d", what, got, code)
	}
}

// wantTaken: this kind, of this link.
func (b *both) wantTaken(t *testing.T, what string, packet []byte, kind, link int) []byte {
	t.Helper()
	got := b.ok(t, take(packet))
	if got.taken.Kind != kind || got.taken.Link != link || got.taken.Code != api.OK {
		b.fail(t, "%s: %+v, want the kind %d of %d", what, got, kind, link)
	}
	return got.taken.Data
}

// wantDelivered: the payload.
func (b *both) wantDelivered(t *testing.T, what string, packet []byte, link int, payload []byte) {
	t.Helper()
	if got := b.wantTaken(t, what, packet, api.TkDelivered, link); !bytes.Equal(got, payload) {
		b.fail(t, "%s: %x is delivered, want %x", what, got, payload)
	}
}

// wantPacket: a packet's head, and the text that it opens to.
func wantPacket(t *testing.T, what string, packet, key []byte, side int, h api.Head, text []byte) {
	t.Helper()
	if got, ok := readHead(packet); !ok || got != h {
		t.Fatalf("%s: the head %+v, %v, want %+v", what, got, ok, h)
	}
	if got, ok := opened(key, side, packet); !ok || !bytes.Equal(got, text) {
		t.Fatalf("%s: the text %x, %v, want %x", what, got, ok, text)
	}
}

// from is a packet that the other side of a peer's key has sealed.
func (b *both) from(kind, link, gen int, counter uint64, text []byte) []byte {
	p, _ := b.p.peer(link)
	return sealed(p.Key, 1-b.p.lane(p.Key).Side, headOf(kind, link, gen, counter), text)
}

func (b *both) wantView(t *testing.T, what string, link int, want api.View) {
	t.Helper()
	if got, ok := b.n.View(link); !ok || !sameView(got, want) {
		b.fail(t, "%s: View(%d) = %+v, %v, want %+v", what, link, got, ok, want)
	}
}

func (b *both) wantPeers(t *testing.T, what string, want ...api.Peer) {
	t.Helper()
	if got := b.n.Peers(); !slices.EqualFunc(got, want, samePeer) {
		b.fail(t, "%s: Peers() = %+v, want %+v", what, got, want)
	}
}

func (b *both) wantLanes(t *testing.T, what string, want ...api.Lane) {
	t.Helper()
	if got := b.n.Lanes(); !slices.EqualFunc(got, want, sameLane) {
		b.fail(t, "%s: Lanes() = %+v, want %+v", what, got, want)
	}
}
