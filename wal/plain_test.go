package wal_test

import (
	"bytes"
	"encoding/binary"
	"hash/crc32"
	"math/rand/v2"
	"slices"

	"culvert/api"
)

// The chapter's words by other means: a device is a list of sectors, what an Open tells is found by trying all that a transaction may be at each place, and what a call does is a list of operations.

const (
	size     = 512
	bodySize = 480
	maxTx    = 4800
	maxSeq   = 1 << 62

	power = 1 // FaultPower
	io    = 2 // FaultIO
)

func plainSum(b []byte) uint32 { return crc32.Checksum(b, crc32.MakeTable(crc32.Castagnoli)) }

// sec is the bytes of a sector (chapter 11).
func sec(tag string, epoch, seq, place int, body []byte) []byte {
	b := append([]byte{}, tag...)
	b = binary.BigEndian.AppendUint64(b, uint64(epoch))
	b = binary.BigEndian.AppendUint64(b, uint64(seq))
	b = binary.BigEndian.AppendUint32(b, uint32(place))
	b = binary.BigEndian.AppendUint16(b, uint16(len(body)))
	b = append(b, 0, 0)
	b = append(b, body...)
	b = append(b, make([]byte, size-4-len(b))...)
	return binary.BigEndian.AppendUint32(b, plainSum(b))
}

func numbers(l ...int) []byte {
	var b []byte
	for _, x := range l {
		b = binary.BigEndian.AppendUint32(b, uint32(x))
	}
	return b
}

// superBody is the body of a superblock that says so.
func superBody(n, k, length int, sum uint32) []byte { return numbers(n, k, length, int(sum)) }

// superFor is the superblock of a state on a device of n sectors.
func superFor(n, epoch, seq int, state []byte) []byte {
	return sec("CVS1", epoch, seq, epoch%2, superBody(n, plainPieces(len(state)), len(state), plainSum(state)))
}

func endBody(k, length int, sum uint32) []byte {
	return append(binary.BigEndian.AppendUint16(nil, uint16(k)), numbers(length, int(sum))...)
}

// endFor is the body of the end of a transaction.
func endFor(tx []byte) []byte { return endBody(plainPieces(len(tx)), len(tx), plainSum(tx)) }

// plainPieces counts them one by one.
func plainPieces(n int) int {
	k := 0
	for left := n; left > 0; left -= bodySize {
		k++
	}
	return k
}

func plainNeed(n int) int {
	if n < 1 || n > maxTx {
		return 0
	}
	if n <= bodySize {
		return 1
	}
	return plainPieces(n) + 1
}

// cutUp are the pieces of a string.
func cutUp(b []byte) [][]byte {
	var out [][]byte
	for len(b) > bodySize {
		out = append(out, b[:bodySize])
		b = b[bodySize:]
	}
	if len(b) > 0 {
		out = append(out, b)
	}
	return out
}

// image is the sectors of a device, each 512 bytes.
type image [][]byte

func zeros(n int) image {
	out := make(image, n)
	for i := range out {
		out[i] = make([]byte, size)
	}
	return out
}

func imageOf(b []byte) image {
	return slices.Collect(slices.Chunk(bytes.Clone(b), size))
}

func (m image) bytes() []byte { return bytes.Join(m, nil) }
func (m image) room() int     { return (len(m) - 2) / 2 }

// first is the sector at which the region of an epoch begins.
func (m image) first(epoch int) int {
	if epoch%2 == 0 {
		return 2
	}
	return 2 + m.room()
}

func (m image) clone() image {
	out := make(image, len(m))
	for i := range m {
		out[i] = bytes.Clone(m[i])
	}
	return out
}

// lay writes sectors into the region of an epoch, from a place on.
func (m image) lay(epoch, place int, sectors ...[]byte) {
	for i, b := range sectors {
		m[m.first(epoch)+place+i] = b
	}
}

// txSectors are the sectors of a transaction.
func txSectors(epoch, seq, place int, tx []byte) [][]byte {
	if len(tx) <= bodySize {
		return [][]byte{sec("CVO1", epoch, seq, place, tx)}
	}
	out := pieceSectors(epoch, seq, place, tx)
	return append(out, sec("CVC1", epoch, seq, place+len(out), endFor(tx)))
}

func pieceSectors(epoch, seq, place int, b []byte) [][]byte {
	var out [][]byte
	for i, body := range cutUp(b) {
		out = append(out, sec("CVD1", epoch, seq, place+i, body))
	}
	return out
}

// logged is a device with a log: a superblock, its checkpoint, transactions behind it; in the other half there is nothing.
func logged(n, epoch, seq int, state []byte, txs ...[]byte) image {
	m := zeros(n)
	m[epoch%2] = superFor(n, epoch, seq, state)
	m.lay(epoch, 0, pieceSectors(epoch, seq, 0, state)...)
	place := plainPieces(len(state))
	for _, tx := range txs {
		m.lay(epoch, place, txSectors(epoch, seq, place, tx)...)
		place += plainNeed(len(tx))
		seq++
	}
	return m
}

// part is a sector taken apart; one without a tag is none's.
type part struct {
	tag               string
	epoch, seq, place int
	body              string
}

func partOf(b []byte) part {
	epoch, seq := binary.BigEndian.Uint64(b[4:]), binary.BigEndian.Uint64(b[12:])
	used := int(binary.BigEndian.Uint16(b[24:]))
	if epoch < 1 || epoch > maxSeq || seq < 1 || seq > maxSeq || used > bodySize {
		return part{}
	}
	p := part{string(b[:4]), int(epoch), int(seq), int(binary.BigEndian.Uint32(b[20:])), string(b[28 : 28+used])}
	if !slices.Contains([]string{"CVS1", "CVD1", "CVC1", "CVO1"}, p.tag) || p.place > 8191 {
		return part{}
	}
	if !bytes.Equal(b, sec(p.tag, p.epoch, p.seq, p.place, []byte(p.body))) {
		return part{}
	}
	return p
}

// opened is what an Open answers, how the log stands then, and which sectors have been read, in their order.
type opened struct {
	err               api.Errno
	state             string
	txs               []string
	epoch, seq, place int
	reads             []int
}

// plainOpen is the Open of a device from which these sectors are read.
func plainOpen(m image) opened {
	out := opened{reads: []int{0, 1}}
	for _, at := range plainOrder(m) {
		p := partOf(m[at])
		length := int(binary.BigEndian.Uint32([]byte(p.body)[8:]))
		sum := binary.BigEndian.Uint32([]byte(p.body)[12:])
		state, right, reads := plainCheckpoint(m, p, length)
		out.reads = append(out.reads, reads...)
		if right && plainSum([]byte(state)) == sum {
			out.state, out.epoch, out.seq, out.place = state, p.epoch, p.seq, plainPieces(length)
			out.walk(m)
			return out
		}
	}
	return opened{err: api.ErrNoStore, reads: out.reads}
}

// plainOrder are the sectors of the superblocks that count, the one with the greater epoch first.
func plainOrder(m image) []int {
	switch zero, one := plainCounts(m, 0), plainCounts(m, 1); {
	case zero && one && partOf(m[0]).epoch > partOf(m[1]).epoch:
		return []int{0, 1}
	case zero && one:
		return []int{1, 0}
	case zero:
		return []int{0}
	case one:
		return []int{1}
	}
	return nil
}

func plainCounts(m image, at int) bool {
	p := partOf(m[at])
	if p.tag != "CVS1" || p.epoch%2 != at || p.place != at || len(p.body) != 16 {
		return false
	}
	n, k := binary.BigEndian.Uint32([]byte(p.body)), binary.BigEndian.Uint32([]byte(p.body)[4:])
	length := binary.BigEndian.Uint32([]byte(p.body)[8:])
	return int(n) == len(m) && int(k) == plainPieces(int(length)) && int(k)+11 <= m.room()
}

// plainCheckpoint is a checkpoint's string, whether all its pieces are right, and which sectors are read for it.
func plainCheckpoint(m image, s part, length int) (state string, right bool, reads []int) {
	for place := range plainPieces(length) {
		at := m.first(s.epoch) + place
		reads = append(reads, at)
		p := partOf(m[at])
		want := part{"CVD1", s.epoch, s.seq, place, p.body}
		if p != want || len(p.body) != min(bodySize, length-place*bodySize) {
			return "", false, reads
		}
		state += p.body
	}
	return state, true, reads
}

// walk goes through the transactions behind the checkpoint.
func (o *opened) walk(m image) {
	for o.seq <= maxSeq && o.place < m.room() {
		var here []part // what is right there for the epoch, the seq and the place
		for place := o.place; place < m.room(); place++ {
			p := partOf(m[m.first(o.epoch)+place])
			if p.epoch != o.epoch || p.seq != o.seq || p.place != place {
				p = part{}
			}
			here = append(here, p)
		}
		tx, sectors := plainTransaction(here)
		read := sectors
		if sectors == 0 {
			for read = 1; read < len(here) && plainBegins(here[:read]); read++ {
			}
		}
		for i := range read {
			o.reads = append(o.reads, m.first(o.epoch)+o.place+i)
		}
		if sectors == 0 {
			return
		}
		o.txs = append(o.txs, tx)
		o.place += sectors
		o.seq++
	}
}

// plainTransaction is the transaction that stands at the beginning of a list, and how many sectors it has; none has 0.
func plainTransaction(here []part) (string, int) {
	if here[0].tag == "CVO1" && here[0].body != "" {
		return here[0].body, 1
	}
	for k := 2; k <= 10 && k < len(here); k++ {
		tx := ""
		for _, p := range here[:k] {
			tx += p.body
		}
		if plainBegins(here[:k]) && here[k].tag == "CVC1" && here[k].body == string(endFor([]byte(tx))) {
			return tx, k + 1
		}
	}
	return "", 0
}

// plainBegins tells whether sectors are pieces with which a transaction may begin.
func plainBegins(l []part) bool {
	for i, p := range l {
		if p.tag != "CVD1" || p.body == "" || len(p.body) < bodySize && (i == 0 || i < len(l)-1) {
			return false
		}
	}
	return len(l) <= 10
}

// operation is a write, or a flush (the sector -1).
type operation struct {
	sector int
	data   []byte
}

var flushing = operation{sector: -1}

func writes(from int, sectors ...[]byte) []operation {
	var out []operation
	for i, b := range sectors {
		out = append(out, operation{from + i, b})
	}
	return out
}

// appending are the operations of an Append where the log stands so.
func appending(m image, epoch, seq, place int, tx []byte) []operation {
	l := txSectors(epoch, seq, place, tx)
	from := m.first(epoch) + place
	if len(l) == 1 {
		return append(writes(from, l...), flushing)
	}
	end := len(l) - 1
	out := append(writes(from, l[:end]...), flushing)
	return append(append(out, writes(from+end, l[end])...), flushing)
}

// checkpointing are the operations of a Checkpoint where the log stands so.
func checkpointing(m image, epoch, seq int, state []byte) []operation {
	e := epoch + 1
	out := append(writes(m.first(e), pieceSectors(e, seq, 0, state)...), flushing)
	return append(out, operation{e % 2, superFor(len(m), e, seq, state)}, flushing)
}

// counted are n bytes, each a step above the one ahead.
func counted(first, step, n int) []byte {
	b := make([]byte, n)
	for i := range b {
		b[i] = byte(first + step*i)
	}
	return b
}

// sampler makes things that are the same at every run.
type sampler struct{ *rand.Rand }

func newSampler(seed uint64) sampler { return sampler{rand.New(rand.NewPCG(seed, 12))} }

func (s sampler) list(n int) []byte {
	b := make([]byte, n)
	for i := range b {
		b[i] = byte(s.Uint32())
	}
	return b
}

func pick[T any](s sampler, l ...T) T { return l[s.IntN(len(l))] }

// txLength is a length of a transaction, mostly at the edges.
func (s sampler) txLength() int {
	return pick(s, 1, 2, 3, 100, 479, 480, 481, 482, 959, 960, 961, 1440, 1441, 4319, 4320, 4321, 4799, 4800, 1+s.IntN(maxTx))
}
