package wal

import (
	"slices"

	"culvert/api"
	"culvert/bits"
	"culvert/crc"
	"culvert/disk"
	"culvert/layout"
	"culvert/sector"
)

// room tells how many sectors a region of a device has.
func room(d *disk.Disk) int { return layout.Room(d.Sectors()) }

// regionOf tells at which sector of a device the region of an epoch begins.
func regionOf(d *disk.Disk, epoch int) int { return layout.Region(d.Sectors(), epoch) }

// home tells at which sector of a device a sector of its log stands.
func home(d *disk.Disk, s api.Sector) int {
	if s.Tag == api.TagSuper {
		return s.Place
	}
	return regionOf(d, s.Epoch) + s.Place
}

// lay writes sectors to a device, each at its home, and makes them last.
func lay(d *disk.Disk, sectors ...api.Sector) api.Errno {
	for _, s := range sectors {
		// No error: the numbers of a log, and the bodies that it cuts, are within their bounds.
		b, _ := sector.Put(s)
		if e := d.Write(home(d, s), b); e != api.OK {
			return e
		}
	}
	return d.Flush()
}

// pieces are the sectors of a string, from a place on.
func pieces(epoch, seq, place int, text []byte) []api.Sector {
	var out []api.Sector
	for body := range slices.Chunk(text, api.BodySize) {
		out = append(out, api.Sector{Tag: api.TagPiece, Epoch: epoch, Seq: seq, Place: place + len(out), Body: body})
	}
	return out
}

// endOf is the body of a transaction's end.
func endOf(tx []byte) []byte {
	b := bits.Put(nil, uint16(Pieces(len(tx))))
	b = bits.Put(b, uint32(len(tx)))
	return bits.Put(b, crc.Sum(tx))
}

// superOf is the superblock of a checkpoint.
func superOf(epoch, seq int, state []byte) layout.Super {
	return layout.Super{Epoch: epoch, Seq: seq, Length: len(state), Sum: crc.Sum(state)}
}
