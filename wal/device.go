package wal

import (
	"slices"

	"culvert/api"
	"culvert/bits"
	"culvert/crc"
	"culvert/disk"
	"culvert/sector"
)

// supers is how many superblocks a device begins with, and how many regions stand behind them: one for the even epochs, one for the odd ones.
const supers = 2

// room tells how many sectors a region of a device has.
func room(d *disk.Disk) int { return (d.Sectors() - supers) / supers }

// regionOf tells at which sector of a device the region of an epoch begins.
func regionOf(d *disk.Disk, epoch int) int { return supers + epoch%supers*room(d) }

// hasRoom tells whether a region has room for a state of n bytes and the longest transaction behind it.
func hasRoom(d *disk.Disk, n int) bool { return Pieces(n)+Need(api.MaxTx) <= room(d) }

// home tells at which sector of a device a sector of its log stands.
func home(d *disk.Disk, s api.Sector) int {
	if s.Tag == api.TagSuper {
		return s.Place
	}
	return regionOf(d, s.Epoch) + s.Place
}

// lay writes sectors to a device, each at its home, and makes them last.
func lay(d *disk.Disk, sectors ...api.Sector) api.Errno {
	for _, s := range sectors {
		// No error: the numbers of a log, and the bodies that it cuts, are within their bounds.
		b, _ := sector.Put(s)
		if e := d.Write(home(d, s), b); e != api.OK {
			return e
		}
	}
	return d.Flush()
}

// pieces are the sectors of a string, from a place on.
func pieces(epoch, seq, place int, text []byte) []api.Sector {
	var out []api.Sector
	for body := range slices.Chunk(text, api.BodySize) {
		out = append(out, api.Sector{Tag: api.TagPiece, Epoch: epoch, Seq: seq, Place: place + len(out), Body: body})
	}
	return out
}

// endOf is the body of a transaction's end.
func endOf(tx []byte) []byte {
	b := bits.Put(nil, uint16(Pieces(len(tx))))
	b = bits.Put(b, uint32(len(tx)))
	return bits.Put(b, crc.Sum(tx))
}

// super is a superblock: its epoch, its seq, the length and the sum of its checkpoint.
type super struct {
	epoch, seq, length int
	sum                uint32
}

// superOf is the superblock of a checkpoint.
func superOf(epoch, seq int, state []byte) super {
	return super{epoch: epoch, seq: seq, length: len(state), sum: crc.Sum(state)}
}

// on is the superblock as the sector of a device.
func (s super) on(d *disk.Disk) api.Sector {
	b := bits.Put(nil, uint32(d.Sectors()))
	b = bits.Put(b, uint32(Pieces(s.length)))
	b = bits.Put(b, uint32(s.length))
	b = bits.Put(b, s.sum)
	return api.Sector{Tag: api.TagSuper, Epoch: s.epoch, Seq: s.seq, Place: s.epoch % supers, Body: b}
}
