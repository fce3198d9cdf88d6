package store_test

import (
	"bytes"
	"encoding/binary"
	"hash/crc32"
	"maps"
	"math/rand/v2"
	"slices"
	"strings"

	"culvert/api"
)

// The chapter's words by other means: a store is a map of texts and three numbers, a device is a list of sectors, and what a call does is a list of operations.

const (
	size     = 512
	bodySize = 480
	maxTx    = 4800
	maxKey   = 40
	maxValue = 480
	maxSeq   = 1 << 62

	power = 1 // FaultPower
	io    = 2 // FaultIO
)

func set(key, value string) api.Set { return api.Set{Key: []byte(key), Value: []byte(value)} }

func gone(key string) api.Set { return api.Set{Key: []byte(key), Gone: true} }

func sets(l ...api.Set) []api.Set { return l }

// rows are values by their keys.
type rows map[string]string

// after are the rows when all of the sets have been done.
func (r rows) after(l []api.Set) rows {
	out := rows{}
	maps.Copy(out, r)
	for _, s := range l {
		if s.Gone {
			delete(out, string(s.Key))
		} else {
			out[string(s.Key)] = string(s.Value)
		}
	}
	return out
}

func (r rows) keys() []string { return slices.Sorted(maps.Keys(r)) }

// bytes are those of a table with these rows.
func (r rows) bytes() []byte {
	var l []api.Set
	for _, key := range r.keys() {
		l = append(l, set(key, r[key]))
	}
	return setBytes(l)
}

// change is what leads from these rows to others, keys rising.
func (r rows) change(to rows) []api.Set {
	both := rows{}
	maps.Copy(both, r)
	maps.Copy(both, to)
	var out []api.Set
	for _, key := range both.keys() {
		was, there := r[key]
		is, here := to[key]
		if !here {
			out = append(out, gone(key))
		} else if !there || was != is {
			out = append(out, set(key, is))
		}
	}
	return out
}

// setBytes are sets as bytes, whether they may be or not.
func setBytes(l []api.Set) []byte {
	var out []byte
	for _, s := range l {
		kind := byte(1)
		if s.Gone {
			kind = 0
		}
		out = append(out, kind, byte(len(s.Key)))
		out = binary.BigEndian.AppendUint16(out, uint16(len(s.Value)))
		out = append(append(out, s.Key...), s.Value...)
	}
	return out
}

func plainMayBe(s api.Set) bool {
	most := maxValue
	if s.Gone {
		most = 0
	}
	return 1 <= len(s.Key) && len(s.Key) <= maxKey && len(s.Value) <= most
}

func plainSum(b []byte) uint32 { return crc32.Checksum(b, crc32.MakeTable(crc32.Castagnoli)) }

// plainPieces counts them one by one.
func plainPieces(n int) int {
	k := 0
	for left := n; left > 0; left -= bodySize {
		k++
	}
	return k
}

func plainNeed(n int) int {
	if n <= bodySize {
		return 1
	}
	return plainPieces(n) + 1
}

// sec is the bytes of a sector (chapter 11).
func sec(tag string, epoch, seq, place int, body []byte) []byte {
	b := append([]byte{}, tag...)
	b = binary.BigEndian.AppendUint64(b, uint64(epoch))
	b = binary.BigEndian.AppendUint64(b, uint64(seq))
	b = binary.BigEndian.AppendUint32(b, uint32(place))
	b = binary.BigEndian.AppendUint16(b, uint16(len(body)))
	b = append(b, 0, 0)
	b = append(b, body...)
	b = append(b, make([]byte, size-4-len(b))...)
	return binary.BigEndian.AppendUint32(b, plainSum(b))
}

func numbers(l ...int) []byte {
	var b []byte
	for _, x := range l {
		b = binary.BigEndian.AppendUint32(b, uint32(x))
	}
	return b
}

// superFor is the superblock of a state on a device of n sectors.
func superFor(n, epoch, seq int, state []byte) []byte {
	return sec("CVS1", epoch, seq, epoch%2, numbers(n, plainPieces(len(state)), len(state), int(plainSum(state))))
}

func pieceSectors(epoch, seq, place int, b []byte) [][]byte {
	var out [][]byte
	for body := range slices.Chunk(b, bodySize) {
		out = append(out, sec("CVD1", epoch, seq, place+len(out), body))
	}
	return out
}

// txSectors are the sectors of a transaction.
func txSectors(epoch, seq, place int, tx []byte) [][]byte {
	if len(tx) <= bodySize {
		return [][]byte{sec("CVO1", epoch, seq, place, tx)}
	}
	out := pieceSectors(epoch, seq, place, tx)
	end := append([]byte{0, byte(len(out))}, numbers(len(tx), int(plainSum(tx)))...)
	return append(out, sec("CVC1", epoch, seq, place+len(out), end))
}

// image is the sectors of a device, each 512 bytes.
type image [][]byte

func zeros(n int) image {
	out := make(image, n)
	for i := range out {
		out[i] = make([]byte, size)
	}
	return out
}

func imageOf(b []byte) image { return slices.Collect(slices.Chunk(bytes.Clone(b), size)) }

func (m image) bytes() []byte { return bytes.Join(m, nil) }

// first is the sector at which the region of an epoch begins, on a device of n sectors.
func first(n, epoch int) int {
	if epoch%2 == 0 {
		return 2
	}
	return 2 + (n-2)/2
}

// logged is a device with a log: a superblock, its checkpoint, transactions behind it; in the other half there is nothing.
func logged(n, epoch, seq int, state []byte, txs ...[]byte) image {
	m := zeros(n)
	m[epoch%2] = superFor(n, epoch, seq, state)
	at := first(n, epoch)
	place := copy(m[at:], pieceSectors(epoch, seq, 0, state))
	for _, tx := range txs {
		place += copy(m[at+place:], txSectors(epoch, seq, place, tx))
		seq++
	}
	return m
}

// plain is a store: how many sectors its device has, where its log stands, its rows.
type plain struct {
	sectors           int
	epoch, seq, place int
	rows              rows
}

func (p plain) room() int { return (p.sectors - 2) / 2 }

// fits tells whether a region has room for these rows as a checkpoint, and eleven sectors behind them.
func (p plain) fits(r rows) bool { return plainPieces(len(r.bytes()))+11 <= p.room() }

// reads is how many sectors an Open reads of a device in whose region nothing stands behind the log.
func (p plain) reads() int {
	if p.place == p.room() || p.seq > maxSeq {
		return 2 + p.place
	}
	return 2 + p.place + 1
}

// stands are a device whose log was laid down by hand, and the store that it is: rows as its checkpoint, transactions behind it.
func stands(n, epoch, seq int, r rows, txs ...[]api.Set) (image, plain) {
	p := plain{n, epoch, seq, plainPieces(len(r.bytes())), r}
	var all [][]byte
	for _, l := range txs {
		tx := setBytes(l)
		all = append(all, tx)
		p.place += plainNeed(len(tx))
		p.seq++
		p.rows = p.rows.after(l)
	}
	return logged(n, epoch, seq, r.bytes(), all...), p
}

// operation is a write, or a flush (the sector -1).
type operation struct {
	sector int
	data   []byte
}

var flushing = operation{sector: -1}

func writes(from int, sectors ...[]byte) []operation {
	var out []operation
	for i, b := range sectors {
		out = append(out, operation{from + i, b})
	}
	return out
}

// committed is what a commit answers if the device refuses nothing, what it does, and the store behind it.
type committed struct {
	err     api.Errno
	ops     []operation
	turned  bool // by a checkpoint
	nothing bool // the change is nothing
	store   plain
}

// commit asks all errors, in the chapter's order.
func (p plain) commit(l []api.Set) committed {
	refused := func(e api.Errno) committed { return committed{err: e, store: p} }
	for _, s := range l {
		if !plainMayBe(s) {
			return refused(api.ErrRow)
		}
	}
	behind := p.rows.after(l)
	tx := setBytes(p.rows.change(behind))
	turns := plainNeed(len(tx)) > p.room()-p.place
	switch {
	case maps.Equal(p.rows, behind):
		return committed{nothing: true, store: p}
	case len(tx) > maxTx:
		return refused(api.ErrTxBig)
	case p.seq > maxSeq, turns && p.epoch == maxSeq:
		return refused(api.ErrSeqs)
	case !p.fits(behind), turns && !p.fits(p.rows):
		return refused(api.ErrFull)
	}
	out := committed{turned: turns, store: p}
	if turns {
		out.ops = p.checkpointing()
		out.store.epoch++
		out.store.place = plainPieces(len(p.rows.bytes()))
	}
	out.ops = append(out.ops, out.store.appending(tx)...)
	out.store.place += plainNeed(len(tx))
	out.store.seq++
	out.store.rows = behind
	return out
}

// appending are the operations of an Append where the log stands so.
func (p plain) appending(tx []byte) []operation {
	l := txSectors(p.epoch, p.seq, p.place, tx)
	from := first(p.sectors, p.epoch) + p.place
	if len(l) == 1 {
		return append(writes(from, l...), flushing)
	}
	end := len(l) - 1
	out := append(writes(from, l[:end]...), flushing)
	return append(append(out, writes(from+end, l[end])...), flushing)
}

// checkpointing are the operations of a Checkpoint of the rows where the log stands so.
func (p plain) checkpointing() []operation {
	e, state := p.epoch+1, p.rows.bytes()
	out := append(writes(first(p.sectors, e), pieceSectors(e, p.seq, 0, state)...), flushing)
	return append(out, operation{e % 2, superFor(p.sectors, e, p.seq, state)}, flushing)
}

// counted is a text of any bytes, each a step above the one ahead.
func counted(start, step, n int) string {
	b := make([]byte, n)
	for i := range b {
		b[i] = byte(start + step*i)
	}
	return string(b)
}

// great is the value of 480 bytes of a number.
func great(x int) string { return counted(x, 2*x+1, maxValue) }

// filled are rows whose bytes are just so many (those of a key at least): few rows, with keys that begin with a text.
func filled(begin string, n, seed int) rows {
	out := rows{}
	for i := 0; n > 0; i++ {
		key := begin + string(rune('A'+i))
		head := 4 + len(key)
		value := min(n-head, maxValue)
		if rest := n - head - value; rest > 0 && rest < head {
			value -= head // the rest must have room for a key
		}
		out[key] = counted(seed+i, 2*i+3, value)
		n -= head + value
	}
	return out
}

// asSets are rows as sets, keys falling: the order does not matter. There is no spare room behind them.
func (r rows) asSets() []api.Set {
	var out []api.Set
	for _, key := range slices.Backward(r.keys()) {
		out = append(out, set(key, r[key]))
	}
	return slices.Clip(out)
}

// allGone are sets that delete all rows.
func (r rows) allGone() []api.Set {
	var out []api.Set
	for _, key := range r.keys() {
		out = append(out, gone(key))
	}
	return slices.Clip(out)
}

// sampler makes things that are the same at every run.
type sampler struct{ *rand.Rand }

func newSampler(seed uint64) sampler { return sampler{rand.New(rand.NewPCG(seed, 14))} }

func pick[T any](s sampler, l ...T) T { return l[s.IntN(len(l))] }

// key is one of a few keys, short and long ones.
func (s sampler) key() string {
	return pick(s, "a", "b", "c", "ab", "p", "q", "r", strings.Repeat("k", maxKey))
}

// list is a list of sets that may be, of few keys, so that they meet again.
func (s sampler) list(most int) []api.Set {
	var out []api.Set
	for range s.IntN(most + 1) {
		if s.IntN(3) == 0 {
			out = append(out, gone(s.key()))
			continue
		}
		n := pick(s, 0, 1, 1, 2, 40, 240, 400, 479, maxValue)
		out = append(out, set(s.key(), counted(s.IntN(4), 1+s.IntN(2), n)))
	}
	return out
}
