package audit_test

import (
	"bytes"
	"encoding/binary"
	"fmt"
	"hash/crc32"
	"maps"
	"slices"
	"strings"

	"culvert/api"
	"culvert/rows"
)

// The chapter's words by other means: a device is a list of sectors, sectors are taken apart at fixed places, a log is what stands behind the one superblock that can be taken, and each sector is asked condition by condition, one behind the other.

const (
	size     = 512
	bodySize = 480
	maxTx    = 4800
	maxSeq   = 1 << 62

	power = 1 // FaultPower
	io    = 2 // FaultIO

	errSectors = 100
	errNoStore = 110
	errSeqs    = 113
	errRow     = 114
)

func plainSum(b []byte) uint32 { return crc32.Checksum(b, crc32.MakeTable(crc32.Castagnoli)) }

// raw is the bytes of a sector (chapter 11), whether it may be or not, with a sum that is right.
func raw(tag string, epoch, seq uint64, place uint32, used uint16, zeros uint16, body []byte) []byte {
	b := append([]byte{}, tag...)
	b = binary.BigEndian.AppendUint64(b, epoch)
	b = binary.BigEndian.AppendUint64(b, seq)
	b = binary.BigEndian.AppendUint32(b, place)
	b = binary.BigEndian.AppendUint16(b, used)
	b = binary.BigEndian.AppendUint16(b, zeros)
	b = append(b, body...)
	return summed(append(b, make([]byte, size-len(b))...))
}

// summed is a sector whose sum was made right again.
func summed(b []byte) []byte {
	return binary.BigEndian.AppendUint32(bytes.Clone(b[:size-4]), plainSum(b[:size-4]))
}

// sec is the bytes of a sector that may be.
func sec(tag string, epoch, seq, place int, body []byte) []byte {
	return raw(tag, uint64(epoch), uint64(seq), uint32(place), uint16(len(body)), 0, body)
}

func numbers(l ...int) []byte {
	var b []byte
	for _, x := range l {
		b = binary.BigEndian.AppendUint32(b, uint32(x))
	}
	return b
}

// superBody is the body of a superblock that says so.
func superBody(n, k, length int, sum uint32) []byte { return numbers(n, k, length, int(sum)) }

// superFor is the superblock of a state on a device of n sectors.
func superFor(n, epoch, seq int, state []byte) []byte {
	return sec("CVS1", epoch, seq, epoch%2, superBody(n, plainPieces(len(state)), len(state), plainSum(state)))
}

// endFor is the body of the end of a transaction.
func endFor(tx []byte) []byte {
	return append(binary.BigEndian.AppendUint16(nil, uint16(plainPieces(len(tx)))), numbers(len(tx), int(plainSum(tx)))...)
}

// plainPieces counts them one by one.
func plainPieces(n int) int {
	k := 0
	for left := n; left > 0; left -= bodySize {
		k++
	}
	return k
}

func pieceSectors(epoch, seq, place int, b []byte) [][]byte {
	var out [][]byte
	for body := range slices.Chunk(b, bodySize) {
		out = append(out, sec("CVD1", epoch, seq, place+len(out), body))
	}
	return out
}

// txSectors are the sectors of a transaction.
func txSectors(epoch, seq, place int, tx []byte) [][]byte {
	if len(tx) <= bodySize {
		return [][]byte{sec("CVO1", epoch, seq, place, tx)}
	}
	out := pieceSectors(epoch, seq, place, tx)
	return append(out, sec("CVC1", epoch, seq, place+len(out), endFor(tx)))
}

// image is the sectors of a device, each 512 bytes.
type image [][]byte

func zeros(n int) image {
	out := make(image, n)
	for i := range out {
		out[i] = make([]byte, size)
	}
	return out
}

func imageOf(b []byte) image { return slices.Collect(slices.Chunk(bytes.Clone(b), size)) }

func (m image) bytes() []byte { return bytes.Join(m, nil) }
func (m image) room() int     { return (len(m) - 2) / 2 }

// first is the sector at which the region of an epoch begins.
func (m image) first(epoch int) int {
	if epoch%2 == 0 {
		return 2
	}
	return 2 + m.room()
}

func (m image) clone() image {
	out := make(image, len(m))
	for i := range m {
		out[i] = bytes.Clone(m[i])
	}
	return out
}

// with is the image with another sector at one place.
func (m image) with(i int, b []byte) image {
	out := m.clone()
	out[i] = b
	return out
}

// logged is a device with a log: a superblock, its checkpoint, transactions behind it; in the other half there is nothing.
func logged(n, epoch, seq int, state []byte, txs ...[]byte) image {
	m := zeros(n)
	m[epoch%2] = superFor(n, epoch, seq, state)
	at := m.first(epoch)
	place := copy(m[at:], pieceSectors(epoch, seq, 0, state))
	for _, tx := range txs {
		place += copy(m[at+place:], txSectors(epoch, seq, place, tx))
		seq++
	}
	return m
}

func isZeros(b []byte) bool { return strings.Trim(string(b), "\x00") == "" }

// part is a sector taken apart; one without a tag is none's.
type part struct {
	tag               string
	epoch, seq, place int
	body              string
}

func partOf(b []byte) part {
	epoch, seq := binary.BigEndian.Uint64(b[4:]), binary.BigEndian.Uint64(b[12:])
	used := int(binary.BigEndian.Uint16(b[24:]))
	if epoch < 1 || epoch > maxSeq || seq < 1 || seq > maxSeq || used > bodySize {
		return part{}
	}
	p := part{string(b[:4]), int(epoch), int(seq), int(binary.BigEndian.Uint32(b[20:])), string(b[28 : 28+used])}
	if !slices.Contains([]string{"CVS1", "CVD1", "CVC1", "CVO1"}, p.tag) || p.place > 8191 {
		return part{}
	}
	if !bytes.Equal(b, sec(p.tag, p.epoch, p.seq, p.place, []byte(p.body))) {
		return part{}
	}
	return p
}

// log is what an Open finds: the epoch of the superblock that is taken (0: none is), the next seq, the checkpoint, the transactions.
type log struct {
	epoch, next int
	state       string
	txs         []string
}

// plainLog tries both superblocks.
func plainLog(m image) log {
	zero, one := plainTaken(m, 0), plainTaken(m, 1)
	if zero.epoch > one.epoch {
		return zero
	}
	return one
}

// plainTaken is the log behind the superblock of a sector, if that may be taken.
func plainTaken(m image, at int) log {
	if !plainCounts(m, at) {
		return log{}
	}
	s := partOf(m[at])
	length := int(binary.BigEndian.Uint32([]byte(s.body)[8:]))
	l := log{epoch: s.epoch, next: s.seq}
	region := m[m.first(s.epoch):][:m.room()]
	for place := range plainPieces(length) {
		p := partOf(region[place])
		if p != (part{"CVD1", s.epoch, s.seq, place, p.body}) || len(p.body) != min(bodySize, length-place*bodySize) {
			return log{}
		}
		l.state += p.body
	}
	if plainSum([]byte(l.state)) != binary.BigEndian.Uint32([]byte(s.body)[12:]) {
		return log{}
	}
	for place := plainPieces(length); place < len(region) && l.next <= maxSeq; {
		tx, sectors := plainTransaction(region, l.epoch, l.next, place)
		if sectors == 0 {
			break
		}
		l.txs = append(l.txs, tx)
		place += sectors
		l.next++
	}
	return l
}

func plainCounts(m image, at int) bool {
	p := partOf(m[at])
	if p.tag != "CVS1" || p.epoch%2 != at || p.place != at || len(p.body) != 16 {
		return false
	}
	n, k := binary.BigEndian.Uint32([]byte(p.body)), binary.BigEndian.Uint32([]byte(p.body)[4:])
	length := binary.BigEndian.Uint32([]byte(p.body)[8:])
	return int(n) == len(m) && int(k) == plainPieces(int(length)) && int(k)+11 <= m.room()
}

// plainTransaction is the transaction at a place of a region, and how many sectors it has; none has 0. It is found by laying each down that may be there.
func plainTransaction(region image, epoch, seq, place int) (string, int) {
	tx := ""
	for i, b := range region[place:] {
		p := partOf(b)
		if p.tag == "CVO1" || p.tag == "CVD1" {
			tx += p.body
		}
		want := [][]byte{}
		if tx != "" && len(tx) <= maxTx {
			want = txSectors(epoch, seq, place, []byte(tx))
		}
		if len(want) == i+1 && slices.EqualFunc(want, region[place:place+i+1], bytes.Equal) {
			return tx, i + 1
		}
	}
	return "", 0
}

// setBytes are sets as bytes (chapter 13).
func setBytes(l ...api.Set) []byte {
	var out []byte
	for _, s := range l {
		kind := byte(1)
		if s.Gone {
			kind = 0
		}
		out = append(out, kind, byte(len(s.Key)))
		out = binary.BigEndian.AppendUint16(out, uint16(len(s.Value)))
		out = append(append(out, s.Key...), s.Value...)
	}
	return out
}

// plainSets are the sets that a text is; false, if it is none's.
func plainSets(b string) (l []api.Set, ok bool) {
	last := ""
	for b != "" {
		if len(b) < 4 || b[0] > 1 {
			return nil, false
		}
		k, v := int(b[1]), int(b[2])<<8|int(b[3])
		if k < 1 || k > 40 || v > 480 || b[0] == 0 && v > 0 || len(b) < 4+k+v {
			return nil, false
		}
		key, value := b[4:4+k], b[4+k:4+k+v]
		if key <= last {
			return nil, false
		}
		l = append(l, api.Set{Key: []byte(key), Value: []byte(value), Gone: b[0] == 0})
		last, b = key, b[4+k+v:]
	}
	return l, true
}

// plainRows are the rows that a log comes to; false, if something in it is none.
func plainRows(l log) ([]api.Row, bool) {
	all := map[string]string{}
	for i, text := range append([]string{l.state}, l.txs...) {
		sets, ok := plainSets(text)
		if !ok {
			return nil, false
		}
		for _, s := range sets {
			if s.Gone && i == 0 {
				return nil, false
			}
			if s.Gone {
				delete(all, string(s.Key))
			} else {
				all[string(s.Key)] = string(s.Value)
			}
		}
	}
	var out []api.Row
	for _, key := range slices.Sorted(maps.Keys(all)) {
		out = append(out, api.Row{Key: []byte(key), Value: []byte(all[key])})
	}
	return out, true
}

// state is what State answers.
type state struct {
	peers []api.Peer
	lanes []api.Lane
	boots int
	err   api.Errno
}

func plainState(b []byte) state {
	if len(b)%size != 0 || len(b) < 32*size || len(b) > 8192*size {
		return state{err: errSectors}
	}
	l := plainLog(imageOf(b))
	if l.epoch == 0 {
		return state{err: errNoStore}
	}
	all, ok := plainRows(l)
	if !ok {
		return state{err: errRow}
	}
	if l.next > maxSeq {
		return state{err: errSeqs}
	}
	var s state
	s.peers, s.lanes, s.boots, s.err = rows.State(all)
	return s
}

// checked is what Check answers.
type checked struct {
	lines []string
	err   api.Errno
}

func plainCheck(b []byte) checked {
	if len(b)%size != 0 || len(b) < 32*size || len(b) > 8192*size {
		return checked{err: errSectors}
	}
	var c checked
	m := imageOf(b)
	for i := range 2 {
		if !isZeros(m[i]) && !plainCounts(m, i) {
			c.lines = append(c.lines, fmt.Sprintf("super %d", i))
		}
	}
	l := plainLog(m)
	for i := 2; i < len(m); i++ {
		if !isZeros(m[i]) && !plainMayLie(m, i, l) {
			c.lines = append(c.lines, fmt.Sprintf("sector %d", i))
		}
	}
	if e := plainState(b).err; e != 0 {
		c.lines = append(c.lines, fmt.Sprintf("state %d", e))
	}
	return c
}

func plainMayLie(m image, i int, l log) bool {
	p := partOf(m[i])
	if p.tag != "CVD1" && p.tag != "CVC1" && p.tag != "CVO1" {
		return false
	}
	if i != m.first(p.epoch)+p.place || p.place >= m.room() {
		return false
	}
	return l.epoch == 0 || p.epoch <= l.epoch+1 && p.seq <= l.next
}
