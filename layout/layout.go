// Package layout: where the superblocks and the regions of a device lie, and what a superblock says: see ../shared/doc/12-wal.md, 'On the device'.
package layout

import (
	"culvert/api"
	"culvert/bits"
	"culvert/sector"
)

// Supers is how many superblocks a device begins with, and how many regions stand behind them: one for the even epochs, one for the odd ones.
const Supers = 2

// Room tells how many sectors a region has, on a device of n sectors.
func Room(n int) int { return (n - Supers) / Supers }

// Region tells at which sector the region of an epoch begins, on a device of n sectors.
func Region(n, epoch int) int { return Supers + epoch%Supers*Room(n) }

// Pieces tells how many pieces a string of n bytes has.
func Pieces(n int) int {
	if n < 1 {
		return 0
	}
	// One byte less rather than 479 more, which the greatest numbers have no room for.
	return (n-1)/api.BodySize + 1
}

// HasRoom tells whether a region has room for a checkpoint of so many bytes and the longest transaction behind it, on a device of n sectors.
func HasRoom(n, length int) bool {
	longest := Pieces(api.MaxTx) + 1 // its pieces and its end
	return Pieces(length)+longest <= Room(n)
}

// Super is a superblock: its epoch, its seq, the length and the sum of its checkpoint.
type Super struct {
	Epoch, Seq, Length int
	Sum                uint32
}

// On is the superblock as a sector, on a device of n sectors.
func (s Super) On(n int) api.Sector {
	b := bits.Put(nil, uint32(n))
	b = bits.Put(b, uint32(Pieces(s.Length)))
	b = bits.Put(b, uint32(s.Length))
	b = bits.Put(b, s.Sum)
	return api.Sector{Tag: api.TagSuper, Epoch: s.Epoch, Seq: s.Seq, Place: s.Epoch % Supers, Body: b}
}

// GetSuper is the superblock that the bytes of the sector i are, on a device of n sectors, and whether they are one that counts.
func GetSuper(n, i int, b []byte) (Super, bool) {
	found, e := sector.Get(b)
	if e != api.OK || found.Tag != api.TagSuper || found.Epoch%Supers != i || found.Place != i {
		return Super{}, false
	}
	r := bits.NewReader(found.Body)
	sectors, k := int(bits.Get[uint32](r)), int(bits.Get[uint32](r))
	s := Super{Epoch: found.Epoch, Seq: found.Seq}
	s.Length = int(bits.Get[uint32](r))
	s.Sum = bits.Get[uint32](r)
	if e, _ := r.Err(); e != api.OK || r.Left() > 0 {
		return Super{}, false
	}
	if sectors != n || k != Pieces(s.Length) || !HasRoom(n, s.Length) {
		return Super{}, false
	}
	return s, true
}
