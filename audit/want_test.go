package audit_test

import (
	"bytes"
	"encoding/binary"
	"fmt"
	"math/rand/v2"
	"net/netip"
	"slices"
	"testing"

	"culvert/api"
	"culvert/audit"
	"culvert/disk"
	"culvert/node"
	"culvert/rows"
	"culvert/store"
)

// key is 32 bytes, unlike for each number and in the order of the numbers.
func key(number int) []byte {
	b := binary.BigEndian.AppendUint32(nil, uint32(number))
	for i := range 28 {
		b = append(b, byte(number*5+1+7*i))
	}
	return b
}

// pre is a prefix as its text says it.
func pre(text string) api.Prefix {
	p := netip.MustParsePrefix(text)
	b := p.Addr().AsSlice()
	if len(b) == 4 {
		return api.Prefix{Addr: api.Addr{Family: 4, Lo: uint64(binary.BigEndian.Uint32(b))}, Bits: p.Bits()}
	}
	return api.Prefix{Addr: api.Addr{Family: 6, Hi: binary.BigEndian.Uint64(b), Lo: binary.BigEndian.Uint64(b[8:])}, Bits: p.Bits()}
}

func peerOf(link int, key []byte, texts ...string) api.Peer {
	p := api.Peer{Link: link, Key: key}
	for _, text := range texts {
		p.Prefixes = append(p.Prefixes, pre(text))
	}
	return p
}

func newLane(key []byte, side int) api.Lane { return api.Lane{Key: key, Side: side, Cur: 1} }

// rowsOf are the rows of a state as sets, by which a checkpoint or a transaction says it; boots below 0 have none.
func rowsOf(peers []api.Peer, lanes []api.Lane, boots int) []api.Set {
	var out []api.Set
	add := func(r api.Row, e api.Errno) {
		if e != api.OK {
			panic(fmt.Sprint("no row: ", e))
		}
		out = append(out, api.Set{Key: r.Key, Value: r.Value})
	}
	for _, p := range peers {
		add(rows.PutPeer(p))
	}
	for _, l := range lanes {
		add(rows.PutLane(l))
	}
	if boots >= 0 {
		add(rows.PutBoots(boots))
	}
	slices.SortFunc(out, func(a, b api.Set) int { return bytes.Compare(a.Key, b.Key) })
	return out
}

func wantErr(t *testing.T, what string, got, want api.Errno) {
	t.Helper()
	if got != want {
		t.Fatalf("%s = %d, want %d", what, got, want)
	}
}

func samePeer(a, b api.Peer) bool {
	return a.Link == b.Link && bytes.Equal(a.Key, b.Key) && slices.Equal(a.Prefixes, b.Prefixes)
}

func sameLane(a, b api.Lane) bool {
	return bytes.Equal(a.Key, b.Key) && a.Side == b.Side && a.Cur == b.Cur && a.Next == b.Next && a.SendCur == b.SendCur && a.Ceil == b.Ceil && a.Seen == b.Seen
}

func (s state) same(o state) bool {
	return slices.EqualFunc(s.peers, o.peers, samePeer) && slices.EqualFunc(s.lanes, o.lanes, sameLane) && s.boots == o.boots && s.err == o.err
}

func (s state) String() string {
	return fmt.Sprintf("%d peers %v, %d lanes %v, %d, %d", len(s.peers), s.peers, len(s.lanes), s.lanes, s.boots, s.err)
}

func stateOf(b []byte) state {
	var s state
	s.peers, s.lanes, s.boots, s.err = audit.State(b)
	return s
}

func checkOf(b []byte) checked {
	var c checked
	c.lines, c.err = audit.Check(b)
	return c
}

func (c checked) same(o checked) bool { return slices.Equal(c.lines, o.lines) && c.err == o.err }

// wantState: just this, however often it is asked.
func wantState(t *testing.T, what string, b []byte, want state) {
	t.Helper()
	for range 2 {
		if got := stateOf(b); !got.same(want) {
			t.Fatalf("%s: State = %v, want %v", what, got, want)
		}
	}
}

// wantLines: OK and just these, however often it is asked.
func wantLines(t *testing.T, what string, b []byte, want ...string) {
	t.Helper()
	for range 2 {
		if got := checkOf(b); !got.same(checked{lines: want}) {
			t.Fatalf("%s: Check = %q, %d, want %q", what, got.lines, got.err, want)
		}
	}
}

// wantPlain: what the plain forms answer.
func wantPlain(t *testing.T, what string, b []byte) {
	t.Helper()
	if got, want := checkOf(b), plainCheck(b); !got.same(want) {
		t.Fatalf("%s: Check = %q, %d, want %q, %d", what, got.lines, got.err, want.lines, want.err)
	}
	if got, want := stateOf(b), plainState(b); !got.same(want) {
		t.Fatalf("%s: State = %v, want %v", what, got, want)
	}
}

// wantSound: no lines, by the plain form too.
func wantSound(t *testing.T, what string, b []byte) {
	t.Helper()
	if got, plain := checkOf(b), plainCheck(b); !got.same(checked{}) || !plain.same(checked{}) {
		t.Fatalf("%s: Check = %q, %d, the plain form %q", what, got.lines, got.err, plain.lines)
	}
}

// formatted is a device that Format has laid a store on.
func formatted(t *testing.T, n int) *disk.Disk {
	t.Helper()
	d := disk.New(n)
	wantErr(t, "Format", store.Format(d), api.OK)
	return d
}

// imaged is a device of these lasting bytes.
func imaged(t *testing.T, b []byte) *disk.Disk {
	t.Helper()
	d, e := disk.Image(b)
	wantErr(t, "Image", e, api.OK)
	return d
}

func params(block, width int) api.Params { return api.Params{Block: block, Width: width} }

func boot(t *testing.T, d *disk.Disk, p api.Params) *node.Node {
	t.Helper()
	n, e := node.Boot(d, p)
	wantErr(t, "Boot", e, api.OK)
	return n
}

func arm(t *testing.T, d *disk.Disk, l ...api.Fault) {
	t.Helper()
	wantErr(t, "Arm", d.Arm(l), api.OK)
}

func fault(at, kind int) api.Fault { return api.Fault{At: at, Kind: kind} }

func add(link int, key []byte, side int) api.Change {
	return api.Change{Kind: api.ChAdd, Link: link, Key: key, Side: side}
}

func remove(link int) api.Change { return api.Change{Kind: api.ChRemove, Link: link} }

func setKey(link int, key []byte, side int) api.Change {
	return api.Change{Kind: api.ChSetKey, Link: link, Key: key, Side: side}
}

func allow(link int, text string) api.Change {
	return api.Change{Kind: api.ChAllow, Link: link, Prefix: pre(text)}
}

func deny(link int, text string) api.Change {
	return api.Change{Kind: api.ChDeny, Link: link, Prefix: pre(text)}
}

// sampler makes things that are the same at every run.
type sampler struct{ *rand.Rand }

func newSampler(seed uint64) sampler { return sampler{rand.New(rand.NewPCG(seed, 24))} }

func pick[T any](s sampler, l ...T) T { return l[s.IntN(len(l))] }

func (s sampler) list(n int) []byte {
	b := make([]byte, n)
	for i := range b {
		b[i] = byte(s.Uint32())
	}
	return b
}

// fullWide is a state whose rows are longer than one sector, and no longer than two.
func fullWide() ([]api.Peer, []api.Lane, int) {
	var peers []api.Peer
	var lanes []api.Lane
	for i := range 5 {
		peers = append(peers, peerOf(i+1, key(i+1), fmt.Sprintf("10.%d.0.0/16", i)))
		lanes = append(lanes, newLane(key(i+1), i%2))
	}
	return peers, lanes, 3
}
