package audit_test

import (
	"bytes"
	"fmt"
	"math"
	"slices"
	"strings"
	"testing"

	"culvert/api"
)

// P24.1, P24.2: of what is no device's nothing is told but ErrSectors, whatever the bytes are.
func TestNoDevice(t *testing.T) {
	t.Parallel()
	lengths := []int{0, 1, 10, 511, 512, 513, 1024, 15871, 15872, 15873, 16383, 16385, 16384 + 511, 8192*size - 1, 8192*size + 1, 8193 * size, 8194 * size, 16384 * size}
	for _, n := range lengths {
		for _, x := range []byte{0, 0xFF, 'C'} {
			b := bytes.Repeat([]byte{x}, n)
			if got := checkOf(b); !got.same(checked{err: errSectors}) {
				t.Errorf("Check of %d bytes %d = %v", n, x, got)
			}
			wantState(t, fmt.Sprintf("%d bytes %d", n, x), b, state{err: errSectors})
		}
	}
	if got := checkOf(nil); !got.same(checked{err: errSectors}) {
		t.Errorf("Check(nil) = %v", got)
	}
	wantState(t, "nil", nil, state{err: errSectors})
	// What would be sound, but for a byte more or less.
	sound := logged(32, 1, 1, nil).bytes()
	for _, b := range [][]byte{append(bytes.Clone(sound), 0), sound[:len(sound)-1], sound[:len(sound)-size]} {
		if got := checkOf(b); !got.same(checked{err: errSectors}) {
			t.Errorf("Check of %d bytes = %v", len(b), got)
		}
		wantState(t, "a store's bytes, cut", b, state{err: errSectors})
	}
}

// P24.1, P24.2: of all sizes that a device may have.
func TestDevices(t *testing.T) {
	t.Parallel()
	for _, n := range []int{32, 33, 34, 35, 64, 1001, 8191, 8192} {
		what := fmt.Sprintf("%d sectors", n)
		wantLines(t, what+" of zeros", zeros(n).bytes(), "state 110")
		wantState(t, what+" of zeros", zeros(n).bytes(), state{err: errNoStore})
		d := formatted(t, n)
		wantLines(t, what+" behind Format", d.Durable())
		wantState(t, what+" behind Format", d.Durable(), state{})
		boot(t, d, params(1, 64))
		wantLines(t, what+" behind a Boot", d.Durable())
		wantState(t, what+" behind a Boot", d.Durable(), state{boots: 1})
	}
}

// full is a state of so many peers and lanes, in order; the order of the links is not that of the keys.
func full(peers, lanes int) ([]api.Peer, []api.Lane) {
	var ps []api.Peer
	for i := range peers {
		ps = append(ps, peerOf(1+i*70000, key(1000-i), fmt.Sprintf("10.%d.0.0/16", i), fmt.Sprintf("fd00:%x::/32", i)))
	}
	var ls []api.Lane
	for i := range lanes {
		ls = append(ls, api.Lane{Key: key(1000 - lanes + 1 + i), Side: i % 2, Cur: i + 1, Next: i, SendCur: uint64(3 * i), Ceil: uint64(i) << 40, Seen: api.Stamp{Sec: i, Nano: i + 2}})
	}
	return ps, ls
}

// P24.1: what a store has: peers by link, lanes by key, boots; as a checkpoint, and as transactions behind it.
func TestStateOf(t *testing.T) {
	t.Parallel()
	ends := api.Lane{Key: bytes.Repeat([]byte{0xFF}, 32), Side: 1, Cur: math.MaxInt32, Next: math.MaxInt32, SendCur: math.MaxUint64, Ceil: math.MaxUint64, Seen: api.Stamp{Sec: math.MaxInt64, Nano: 999999999}}
	peers, lanes := full(16, 32)
	for _, c := range []struct {
		what string
		want state
	}{
		{"nothing", state{}},
		{"boots alone", state{boots: 258}},
		{"the most boots", state{boots: maxSeq}},
		{"a lane without a peer", state{lanes: []api.Lane{ends}, boots: 1}},
		{"a peer", state{peers: []api.Peer{peerOf(7, key(1), "10.0.0.0/8", "10.1.0.0/16", "::/0")}, lanes: []api.Lane{newLane(key(1), 1)}, boots: 3}},
		{"the greatest link", state{peers: []api.Peer{peerOf(math.MaxUint32, ends.Key)}, lanes: []api.Lane{newLane(key(1), 0), ends}}},
		{"as many peers and lanes as there may be", state{peers: peers, lanes: lanes, boots: 77}},
	} {
		boots := c.want.boots
		if boots == 0 {
			boots = -1
		}
		all := rowsOf(c.want.peers, c.want.lanes, boots)
		wantState(t, c.what+", a checkpoint", logged(64, 3, 9, setBytes(all...)).bytes(), c.want)
		wantLines(t, c.what+", a checkpoint", logged(64, 3, 9, setBytes(all...)).bytes())
		// Each row by a transaction of its own, in another order, behind rows that go.
		txs := [][]byte{setBytes(rowsOf(nil, []api.Lane{newLane(key(5), 0)}, 5)...)}
		var gone []api.Set
		for _, s := range rowsOf(nil, []api.Lane{newLane(key(5), 0)}, 5) {
			gone = append(gone, api.Set{Key: s.Key, Gone: true})
		}
		txs = append(txs, setBytes(gone...))
		for _, s := range slices.Backward(all) {
			txs = append(txs, setBytes(s))
		}
		wantState(t, c.what+", transactions", logged(200, 4, 9, nil, txs...).bytes(), c.want)
		wantLines(t, c.what+", transactions", logged(200, 4, 9, nil, txs...).bytes())
	}
	wantState(t, "a row of no boots", logged(64, 3, 9, setBytes(rowsOf(nil, nil, 0)...)).bytes(), state{})
}

// P24.1: it is the store behind the superblock that is taken that is told of.
func TestStateOfWhichLog(t *testing.T) {
	t.Parallel()
	state1, state2 := setBytes(rowsOf(nil, nil, 1)...), setBytes(rowsOf(nil, nil, 2)...)
	elder, younger := logged(32, 6, 9, state1), logged(32, 7, 9, state2)
	both := elder.clone()
	both[1] = younger[1]
	copy(both[17:], younger[17:])
	wantState(t, "two checkpoints", both.bytes(), state{boots: 2})
	wantLines(t, "two checkpoints", both.bytes())
	// The younger superblock counts, but its checkpoint is not there.
	wantState(t, "a checkpoint that is not there", both.with(17, make([]byte, size)).bytes(), state{boots: 1})
	wantState(t, "a superblock of another seq", both.with(1, superFor(32, 7, 8, state2)).bytes(), state{boots: 1})
	wantState(t, "a superblock with another sum", both.with(1, superFor(32, 7, 9, state1)).bytes(), state{boots: 1})
	wantState(t, "neither", both.with(17, make([]byte, size)).with(2, make([]byte, size)).bytes(), state{err: errNoStore})
	wantLines(t, "neither", both.with(17, make([]byte, size)).with(2, make([]byte, size)).bytes(), "state 110")
}

// P24.1: ErrNoStore, where no superblock is taken.
func TestStateNoStore(t *testing.T) {
	t.Parallel()
	sound := logged(32, 5, 9, setBytes(rowsOf(nil, nil, 3)...), setBytes(rowsOf(nil, nil, 4)...))
	wantState(t, "a store", sound.bytes(), state{boots: 4})
	for what, m := range map[string]image{
		"no superblock":                   sound.with(1, make([]byte, size)),
		"a superblock at the other place": sound.with(0, sound[1]).with(1, make([]byte, size)),
		"a superblock that was turned":    sound.with(1, turned(sound[1], 300, 1)),
		"no checkpoint":                   sound.with(17, make([]byte, size)),
		"a checkpoint that was turned":    sound.with(17, turned(sound[17], 30, 1)),
		"a transaction in its place":      sound.with(17, sound[18]),
		"bytes that say nothing":          imageOf(bytes.Repeat([]byte{0xFF}, 32*size)),
	} {
		wantState(t, what, m.bytes(), state{err: errNoStore})
	}
}

// turned is a sector with another byte.
func turned(b []byte, at int, with byte) []byte {
	out := bytes.Clone(b)
	out[at] ^= with
	return out
}

// P24.1: ErrRow of a store that Open does not take: a string that is no table's, a transaction that is none.
func TestStateStoreRow(t *testing.T) {
	t.Parallel()
	boots := rowsOf(nil, nil, 3)
	right := setBytes(boots...)
	for what, m := range map[string]image{
		"a checkpoint that is no table's":       logged(32, 5, 9, []byte("x")),
		"a checkpoint with a set that is gone":  logged(32, 5, 9, setBytes(api.Set{Key: []byte("B"), Gone: true})),
		"a checkpoint whose keys do not rise":   logged(32, 5, 9, append(bytes.Clone(right), right...)),
		"a checkpoint with a byte more":         logged(32, 5, 9, append(bytes.Clone(right), 0)),
		"a transaction that is none":            logged(32, 5, 9, nil, []byte("x")),
		"a transaction behind one that is":      logged(32, 5, 9, nil, right, []byte{1}),
		"a transaction with a key of no bytes":  logged(32, 5, 9, right, []byte{1, 0, 0, 0}),
		"a long transaction":                    logged(32, 5, 9, right, bytes.Repeat([]byte{1}, 481)),
		"one ahead of others that are":          logged(32, 5, 9, right, []byte{2, 1, 0, 0, 'B'}, right),
		"such a one behind the greatest seq":    logged(32, 5, maxSeq, nil, []byte("x")),
		"a checkpoint, behind the greatest seq": logged(32, 5, maxSeq, []byte("x"), right),
	} {
		wantState(t, what, m.bytes(), state{err: errRow})
		wantLines(t, what, m.bytes(), "state 114")
	}
}

// P24.1: ErrSeqs, if the next seq is above the greatest; it comes ahead of what rows.State says.
func TestStateSeqs(t *testing.T) {
	t.Parallel()
	boots, strange := setBytes(rowsOf(nil, nil, 3)...), setBytes(api.Set{Key: []byte("X")})
	for what, m := range map[string]image{
		"a transaction of the greatest seq":  logged(32, 5, maxSeq, nil, boots),
		"two, the second one of it":          logged(32, 4, maxSeq-1, nil, boots, boots),
		"of the greatest epoch":              logged(32, maxSeq, maxSeq, boots, boots),
		"with a row that rows.State refuses": logged(32, 5, maxSeq, strange, boots),
	} {
		wantState(t, what, m.bytes(), state{err: errSeqs})
		wantLines(t, what, m.bytes(), "state 113")
	}
	wantState(t, "the greatest seq is the next one", logged(32, 5, maxSeq, boots).bytes(), state{boots: 3})
	wantLines(t, "the greatest seq is the next one", logged(32, 5, maxSeq, boots).bytes())
	wantState(t, "behind the last but one", logged(32, 5, maxSeq-1, nil, boots).bytes(), state{boots: 3})
	wantLines(t, "behind the last but one", logged(32, 5, maxSeq-1, nil, boots).bytes())
}

// P24.1: ErrRow, and nothing else, of a store whose rows rows.State refuses.
func TestStateRows(t *testing.T) {
	t.Parallel()
	lanes := []api.Lane{newLane(key(1), 0), newLane(key(2), 1)}
	right := func(peers ...api.Peer) []api.Set { return rowsOf(peers, lanes, 5) }
	wantState(t, "two peers", logged(64, 5, 9, setBytes(right(peerOf(1, key(1), "10.0.0.0/8"), peerOf(2, key(2)))...)).bytes(), state{peers: []api.Peer{peerOf(1, key(1), "10.0.0.0/8"), peerOf(2, key(2))}, lanes: lanes, boots: 5})
	peers16, lanes33 := full(16, 33)
	peers17, lanes32 := full(17, 32)
	for what, sets := range map[string][]api.Set{
		"a row of no kind":              append(right(), api.Set{Key: []byte("X")}),
		"boots beyond the bound":        {{Key: []byte("B"), Value: []byte{0x40, 0, 0, 0, 0, 0, 0, 1}}},
		"boots with a byte less":        {{Key: []byte("B"), Value: make([]byte, 7)}},
		"a peer of no link":             append(right(), api.Set{Key: []byte("P\x00\x00\x00\x00"), Value: append(key(1), 0)}),
		"a lane of no generation":       {{Key: append([]byte("L"), key(1)...), Value: make([]byte, 37)}},
		"a peer without a lane":         right(peerOf(1, key(3))),
		"two peers with one key":        right(peerOf(1, key(1)), peerOf(2, key(1))),
		"two peers with one prefix":     right(peerOf(1, key(1), "10.0.0.0/8"), peerOf(2, key(2), "10.0.0.0/8", "::/0")),
		"a lane more than there may be": rowsOf(peers16, lanes33, 5),
		"a peer more than there may be": rowsOf(peers17, lanes32, 5),
	} {
		m := logged(64, 5, 9, setBytes(sets...))
		wantState(t, what, m.bytes(), state{err: errRow})
		wantLines(t, what, m.bytes(), "state 114")
	}
	// The rows as transactions make them are what counts.
	bad := setBytes(api.Set{Key: []byte("X")})
	gone := setBytes(api.Set{Key: []byte("X"), Gone: true})
	wantState(t, "a strange row", logged(64, 5, 9, setBytes(right()...), bad).bytes(), state{err: errRow})
	wantState(t, "a strange row that has gone", logged(64, 5, 9, setBytes(right()...), bad, gone).bytes(), state{lanes: lanes, boots: 5})
}

// P24.1, P24.2: the state is told whatever stands elsewhere on the device, and Check tells the state's error beside the other lines.
func TestStateBeside(t *testing.T) {
	t.Parallel()
	junk := bytes.Repeat([]byte{0xEE}, size)
	sound := logged(33, 5, 9, setBytes(rowsOf(nil, nil, 3)...))
	m := sound.with(0, junk).with(2, junk).with(16, junk).with(20, junk).with(32, junk)
	wantState(t, "junk all around", m.bytes(), state{boots: 3})
	wantLines(t, "junk all around", m.bytes(), "super 0", "sector 2", "sector 16", "sector 20", "sector 32")
	m[17] = junk
	wantState(t, "junk in the checkpoint", m.bytes(), state{err: errNoStore})
	wantLines(t, "junk in the checkpoint", m.bytes(), "super 0", "sector 2", "sector 16", "sector 17", "sector 20", "sector 32", "state 110")
	strange := logged(33, 5, 9, setBytes(api.Set{Key: []byte(strings.Repeat("X", 40))})).with(0, junk)
	wantLines(t, "a strange row beside junk", strange.bytes(), "super 0", "state 114")
	wantLines(t, "the last seq beside junk", logged(33, 5, maxSeq, nil, setBytes(rowsOf(nil, nil, 3)...)).with(7, junk).bytes(), "sector 7", "state 113")
}
