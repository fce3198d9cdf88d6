package wal

import (
	"bytes"
	"cmp"
	"iter"
	"slices"

	"culvert/api"
	"culvert/crc"
	"culvert/disk"
	"culvert/layout"
	"culvert/sector"
)

// Open reads the log of a device: the checkpoint's bytes, the transactions behind it.
func Open(d *disk.Disk) (*Log, []byte, [][]byte, api.Errno) {
	l := &Log{device: d, claim: d.Claim()}
	state, e := l.enter()
	if e != api.OK {
		return nil, nil, nil, e
	}
	var txs [][]byte
	for tx, e := range l.transactions() {
		if e != api.OK {
			return nil, nil, nil, e
		}
		txs = append(txs, tx)
	}
	return l, state, txs, api.OK
}

// enter sets the log behind the checkpoint of the superblock that is taken; the checkpoint's string.
func (l *Log) enter() ([]byte, api.Errno) {
	found, e := readSupers(l.device)
	if e != api.OK {
		return nil, e
	}
	for _, s := range found {
		state, taken, e := readState(l.device, s)
		if e != api.OK {
			return nil, e
		}
		if taken {
			l.epoch, l.seq, l.place = s.Epoch, s.Seq, Pieces(s.Length)
			return state, api.OK
		}
	}
	return nil, api.ErrNoStore
}

// readSupers are the superblocks of a device that count, the one with the greater epoch first.
func readSupers(d *disk.Disk) ([]layout.Super, api.Errno) {
	var out []layout.Super
	for i := range layout.Supers {
		b, e := d.Read(i)
		if e != api.OK {
			return nil, e
		}
		if s, counts := layout.GetSuper(d.Sectors(), i, b); counts {
			out = append(out, s)
		}
	}
	slices.SortFunc(out, func(a, b layout.Super) int { return cmp.Compare(b.Epoch, a.Epoch) })
	return out, api.OK
}

// readState reads a superblock's checkpoint: its string, and whether the superblock is taken by it.
func readState(d *disk.Disk, s layout.Super) ([]byte, bool, api.Errno) {
	var state []byte
	for place := range Pieces(s.Length) {
		b, e := d.Read(regionOf(d, s.Epoch) + place)
		if e != api.OK {
			return nil, false, e
		}
		body, right := sector.Right(b, api.TagPiece, s.Epoch, s.Seq, place)
		if !right || len(body) != min(s.Length-len(state), api.BodySize) {
			return nil, false, api.OK
		}
		state = append(state, body...)
	}
	return state, crc.Sum(state) == s.Sum, api.OK
}

// transactions goes through those that stand behind the log's place, and takes the place and the next seq behind each. What the device refuses is told in place of a transaction, as the last.
func (l *Log) transactions() iter.Seq2[[]byte, api.Errno] {
	return func(yield func([]byte, api.Errno) bool) {
	walk:
		for l.seq <= api.MaxSeq {
			var r row
			for !r.whole {
				place := l.place + r.sectors
				if place == room(l.device) {
					break walk
				}
				b, e := l.device.Read(regionOf(l.device, l.epoch) + place)
				if e != api.OK {
					yield(nil, e)
					return
				}
				if !r.add(l.right(b, place)) {
					break walk
				}
			}
			l.place += r.sectors
			l.seq++
			if !yield(r.tx, api.OK) {
				return
			}
		}
	}
}

// right is what stands at a place of the log's region, if it is right there for the next seq: its tag and its body; else no tag.
func (l *Log) right(b []byte, place int) (string, []byte) {
	s, e := sector.Get(b)
	if e != api.OK || s.Epoch != l.epoch || s.Seq != l.seq || s.Place != place {
		return "", nil
	}
	return s.Tag, s.Body
}

// row is a transaction as far as its sectors have been read.
type row struct {
	sectors int
	tx      []byte
	whole   bool
}

// add takes in the next sector, and tells whether the row goes on with it or is whole by it. Where it is neither, the row is none.
func (r *row) add(tag string, body []byte) bool {
	fits := false
	switch tag {
	case api.TagOne:
		fits = r.sectors == 0 && len(body) > 0
		r.tx, r.whole = body, true
	case api.TagPiece:
		fits = r.takesPiece(body)
		r.tx = append(r.tx, body...)
	case api.TagEnd:
		fits = r.sectors > 1 && bytes.Equal(body, endOf(r.tx))
		r.whole = true
	}
	r.sectors++
	return fits
}

// takesPiece tells whether a piece may stand behind the pieces of the row.
func (r *row) takesPiece(body []byte) bool {
	if r.sectors == 0 {
		return len(body) == api.BodySize // a row of one piece alone is none: that is TagOne's
	}
	full := len(r.tx) == r.sectors*api.BodySize
	return full && len(r.tx) < api.MaxTx && len(body) > 0
}
