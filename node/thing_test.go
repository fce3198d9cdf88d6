package node_test

import (
	"bytes"
	library "crypto/aes"
	"crypto/cipher"
	"encoding/binary"
	"math"
	"net/netip"
	"slices"
	"testing"

	"culvert/api"
	"culvert/crc"
	"culvert/disk"
	"culvert/rows"
	"culvert/sector"
	"culvert/store"
	"culvert/table"
)

// What the tests are made of: keys, addresses, payloads, packets sealed by the library, changes, rows, and devices laid down by hand.

const (
	maxLink    = 4294967295
	maxGen     = 2147483647
	maxCounter = uint64(math.MaxUint64 - 1)
	maxBlock   = 1048576
	maxSec     = math.MaxInt
	maxNano    = 999999999
	maxSeq     = 1 << 62

	pkInit, pkReply, pkData = 1, 2, 3

	power, io = 1, 2 // FaultPower, FaultIO
)

// key is one of many; they rise with their numbers.
func key(n int) []byte {
	b := bytes.Repeat([]byte{byte(n)}, 32)
	b[31] ^= 0x55
	return b
}

func params(block, width int) api.Params { return api.Params{Block: block, Width: width} }

func stampOf(sec, nano int) api.Stamp { return api.Stamp{Sec: sec, Nano: nano} }

func greatest() api.Stamp { return stampOf(maxSec, maxNano) }

func noStamps() []api.Stamp {
	return []api.Stamp{stampOf(-1, 0), stampOf(0, -1), stampOf(0, maxNano+1), stampOf(maxSec, maxNano+1), stampOf(math.MinInt, 5), stampOf(7, math.MaxInt)}
}

func less(a, b api.Stamp) bool { return a.Sec < b.Sec || a.Sec == b.Sec && a.Nano < b.Nano }

func stampBytes(s api.Stamp) []byte {
	return binary.BigEndian.AppendUint32(binary.BigEndian.AppendUint64(nil, uint64(s.Sec)), uint32(s.Nano))
}

func readStamp(b []byte) api.Stamp {
	return stampOf(int(binary.BigEndian.Uint64(b)), int(binary.BigEndian.Uint32(b[8:])))
}

func pre(text string) api.Prefix {
	p := netip.MustParsePrefix(text)
	if p.Addr().Is4() {
		b := p.Addr().As4()
		return api.Prefix{Addr: api.Addr{Family: 4, Lo: uint64(binary.BigEndian.Uint32(b[:]))}, Bits: p.Bits()}
	}
	b := p.Addr().As16()
	return api.Prefix{Addr: api.Addr{Family: 6, Hi: binary.BigEndian.Uint64(b[:]), Lo: binary.BigEndian.Uint64(b[8:])}, Bits: p.Bits()}
}

// prefixOf is a prefix as the library has it.
func prefixOf(p api.Prefix) netip.Prefix {
	if p.Addr.Family == 4 {
		return netip.PrefixFrom(netip.AddrFrom4([4]byte(binary.BigEndian.AppendUint32(nil, uint32(p.Addr.Lo)))), p.Bits)
	}
	b := binary.BigEndian.AppendUint64(binary.BigEndian.AppendUint64(nil, p.Addr.Hi), p.Addr.Lo)
	return netip.PrefixFrom(netip.AddrFrom16([16]byte(b)), p.Bits)
}

// pay is a payload from one address to another.
func pay(src, dst, body string) []byte {
	from, to := netip.MustParseAddr(src), netip.MustParseAddr(dst)
	b := []byte{6}
	if from.Is4() {
		b[0] = 4
	}
	return slices.Concat(b, from.AsSlice(), to.AsSlice(), []byte(body))
}

// ends are source and destination of a payload; false, if it is none.
func ends(b []byte) (src, dst netip.Addr, ok bool) {
	size := 4
	switch {
	case len(b) == 0 || len(b) > 1280 || b[0] != 4 && b[0] != 6:
		return
	case b[0] == 6:
		size = 16
	}
	if len(b) < 1+2*size {
		return
	}
	src, _ = netip.AddrFromSlice(b[1 : 1+size])
	dst, _ = netip.AddrFromSlice(b[1+size : 1+2*size])
	return src, dst, true
}

func headOf(kind, link, gen int, counter uint64) api.Head {
	return api.Head{Type: kind, Link: link, Gen: gen, Counter: counter}
}

func headBytes(h api.Head) []byte {
	b := []byte{byte(h.Type), 0, 0, 0}
	b = binary.BigEndian.AppendUint32(b, uint32(h.Link))
	b = binary.BigEndian.AppendUint32(b, uint32(h.Gen))
	return binary.BigEndian.AppendUint64(b, h.Counter)
}

// readHead is the head of a packet whose form may be.
func readHead(b []byte) (api.Head, bool) {
	if len(b) < 20 {
		return api.Head{}, false
	}
	h := headOf(int(b[0]), int(binary.BigEndian.Uint32(b[4:])), int(binary.BigEndian.Uint32(b[8:])), binary.BigEndian.Uint64(b[12:]))
	long := len(b) == 48
	if h.Type == pkData {
		long = len(b) >= 45 && len(b) <= 1316
	}
	ok := h.Type >= 1 && h.Type <= 3 && b[1]|b[2]|b[3] == 0 && h.Link >= 1 && h.Gen >= 1 && h.Gen <= maxGen && h.Counter <= maxCounter
	return h, ok && long
}

func gcmOf(key []byte) cipher.AEAD {
	block, e := library.NewCipher(key)
	if e != nil {
		panic(e)
	}
	mode, e := cipher.NewGCM(block)
	if e != nil {
		panic(e)
	}
	return mode
}

func nonceOf(side int, h api.Head) []byte {
	b := binary.BigEndian.AppendUint32(nil, uint32(side)<<31+uint32(h.Gen))
	return binary.BigEndian.AppendUint64(b, h.Counter)
}

// sealed is a packet; its head and text need not be such as may be.
func sealed(key []byte, side int, h api.Head, text []byte) []byte {
	b := headBytes(h)
	return gcmOf(key).Seal(slices.Clone(b), nonceOf(side, h), text, b)
}

func opened(key []byte, side int, b []byte) ([]byte, bool) {
	h, ok := readHead(b)
	if !ok {
		return nil, false
	}
	text, e := gcmOf(key).Open(nil, nonceOf(side, h), b[20:], b[:20])
	return text, e == nil
}

func add(link int, key []byte, side int) api.Change {
	return api.Change{Kind: api.ChAdd, Link: link, Key: key, Side: side}
}

func remove(link int) api.Change { return api.Change{Kind: api.ChRemove, Link: link} }

func setKey(link int, key []byte, side int) api.Change {
	return api.Change{Kind: api.ChSetKey, Link: link, Key: key, Side: side}
}

func allow(link int, text string) api.Change {
	return api.Change{Kind: api.ChAllow, Link: link, Prefix: pre(text)}
}

func deny(link int, text string) api.Change {
	return api.Change{Kind: api.ChDeny, Link: link, Prefix: pre(text)}
}

func peerOf(link int, key []byte, prefixes ...string) api.Peer {
	p := api.Peer{Link: link, Key: key}
	for _, text := range prefixes {
		p.Prefixes = append(p.Prefixes, pre(text))
	}
	return p
}

func newLane(key []byte, side int) api.Lane { return api.Lane{Key: key, Side: side, Cur: 1} }

func withLane(l api.Lane, change func(l *api.Lane)) api.Lane {
	l.Key = slices.Clone(l.Key)
	change(&l)
	return l
}

// rowsOf are the rows of a state; below 0 there is no row of the boots.
func rowsOf(peers []api.Peer, lanes []api.Lane, boots int) []api.Row {
	var out []api.Row
	lay := func(r api.Row, e api.Errno) {
		if e != api.OK {
			panic(e)
		}
		out = append(out, r)
	}
	for _, p := range peers {
		lay(rows.PutPeer(p))
	}
	for _, l := range lanes {
		lay(rows.PutLane(l))
	}
	if boots >= 0 {
		lay(rows.PutBoots(boots))
	}
	slices.SortFunc(out, func(a, b api.Row) int { return bytes.Compare(a.Key, b.Key) })
	return out
}

func setsOf(l []api.Row) []api.Set {
	var out []api.Set
	for _, r := range l {
		out = append(out, api.Set{Key: r.Key, Value: r.Value})
	}
	return out
}

// bytesOf are the bytes of a table of rows.
func bytesOf(l []api.Row) []byte {
	b, e := table.PutSets(setsOf(l))
	if e != api.OK {
		panic(e)
	}
	return b
}

// formatted is a device on which a store stands, without a row.
func formatted(t *testing.T, sectors int) *disk.Disk {
	t.Helper()
	d := disk.New(sectors)
	wantErr(t, "Format", store.Format(d), api.OK)
	return d
}

// laid is a device whose log stands where it is said: a checkpoint of rows, and behind it as many transactions of one sector as there are sets.
func laid(t *testing.T, sectors, epoch, seq int, l []api.Row, txs ...api.Set) *disk.Disk {
	t.Helper()
	var txBytes [][]byte
	for _, s := range txs {
		b, e := table.PutSets([]api.Set{s})
		wantErr(t, "PutSets", e, api.OK)
		txBytes = append(txBytes, b)
	}
	return laidBytes(t, sectors, epoch, seq, bytesOf(l), txBytes...)
}

func laidBytes(t *testing.T, sectors, epoch, seq int, state []byte, txs ...[]byte) *disk.Disk {
	t.Helper()
	all := make([]byte, sectors*512)
	lay := func(at int, s api.Sector) {
		b, e := sector.Put(s)
		wantErr(t, "sector.Put", e, api.OK)
		copy(all[at*512:], b)
	}
	first, place := 2+epoch%2*((sectors-2)/2), 0
	for body := range slices.Chunk(state, 480) {
		lay(first+place, api.Sector{Tag: api.TagPiece, Epoch: epoch, Seq: seq, Place: place, Body: body})
		place++
	}
	var body []byte
	for _, x := range []int{sectors, place, len(state), int(crc.Sum(state))} {
		body = binary.BigEndian.AppendUint32(body, uint32(x))
	}
	lay(epoch%2, api.Sector{Tag: api.TagSuper, Epoch: epoch, Seq: seq, Place: epoch % 2, Body: body})
	for _, tx := range txs {
		lay(first+place, api.Sector{Tag: api.TagOne, Epoch: epoch, Seq: seq, Place: place, Body: tx})
		place++
		seq++
	}
	d, e := disk.Image(all)
	wantErr(t, "Image", e, api.OK)
	return d
}

// flips are so many transactions, each of which sets one lane to something else: they fill a region.
func flips(n int, l api.Lane) []api.Set {
	var out []api.Set
	for i := range n {
		row, _ := rows.PutLane(withLane(l, func(l *api.Lane) { l.SendCur += uint64(n - 1 - i) }))
		out = append(out, setsOf([]api.Row{row})...)
	}
	return out
}

// twin is another device on which the same lasts and pends, with the same claim; as many operations have been counted, if none is armed.
func twin(t *testing.T, d *disk.Disk) *disk.Disk {
	t.Helper()
	other, e := disk.Image(d.Durable())
	wantErr(t, "Image", e, api.OK)
	for _, w := range d.Pending() {
		wantErr(t, "Write", other.Write(w.Sector, w.Data), api.OK)
	}
	for other.Claimed() < d.Claimed() {
		other.Claim()
	}
	wantErr(t, "Arm", other.Arm(nil), api.OK)
	return other
}

func arm(t *testing.T, d *disk.Disk, l ...api.Fault) {
	t.Helper()
	wantErr(t, "Arm", d.Arm(l), api.OK)
}

func fault(at, kind int) api.Fault { return api.Fault{At: at, Kind: kind} }

// errOf is what an operation answers that meets a fault.
func errOf(kind int) api.Errno {
	if kind == power {
		return api.ErrPower
	}
	return api.ErrIO
}

func wantErr(t *testing.T, what string, got, want api.Errno) {
	t.Helper()
	if got != want {
		t.Fatalf("%s = %d, want %d", what, got, want)
	}
}
