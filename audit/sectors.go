package audit

import (
	"slices"
	"sync"

	"culvert/api"
	"culvert/disk"
	"culvert/layout"
	"culvert/sector"
	"culvert/wal"
)

// sectors tells how many sectors the bytes of a device are.
func sectors(image []byte) int { return len(image) / api.SectorSize }

// sectorAt is a sector of the bytes of a device.
func sectorAt(image []byte, i int) []byte {
	return image[i*api.SectorSize : (i+1)*api.SectorSize]
}

// isUnused tells whether a sector is all zeros.
func isUnused(b []byte) bool {
	return [api.SectorSize]byte(b) == [api.SectorSize]byte{}
}

// strangeSupers are the sectors of the superblocks, rising, in which there is something, but none that counts.
func strangeSupers(image []byte) []int {
	var strange []int
	for i := range layout.Supers {
		b := sectorAt(image, i)
		if _, counts := layout.GetSuper(sectors(image), i, b); !counts && !isUnused(b) {
			strange = append(strange, i)
		}
	}
	return strange
}

// reach is how far a log has come: the greatest epoch and the greatest seq that one of its sectors may have.
type reach struct{ epoch, seq int }

// reachOf is the reach of the log of a device: a checkpoint of the epoch above, and a transaction of the next seq, may have been begun and given up. Without a log there is no bound.
func reachOf(d *disk.Disk) reach {
	log, _, _, e := wal.Open(d)
	if e != api.OK {
		return reach{api.MaxSeq, api.MaxSeq}
	}
	epoch, next, _ := log.State()
	return reach{epoch + 1, next}
}

// strangeSectors are the sectors behind the superblocks, rising, that are neither unused nor may lie where they do.
func strangeSectors(image []byte, most reach) []int {
	var found [layout.Supers][]int // each region's
	var working sync.WaitGroup
	for region := range found {
		working.Add(1)
		go func() {
			defer working.Done()
			found[region] = strangeOf(image, region, most)
		}()
	}
	working.Wait()
	return append(slices.Concat(found[:]...), strangeBehind(image)...)
}

// strangeOf are those of a region.
func strangeOf(image []byte, region int, most reach) []int {
	n := sectors(image)
	first := layout.Region(n, region)
	var strange []int
	for place := range layout.Room(n) {
		b := sectorAt(image, first+place)
		if !isUnused(b) && !mayLie(b, region, place, most) {
			strange = append(strange, first+place)
		}
	}
	return strange
}

// strangeBehind are those behind the regions, where nothing may lie: of an odd number of sectors the last one.
func strangeBehind(image []byte) []int {
	n := sectors(image)
	behind := layout.Supers + layout.Supers*layout.Room(n)
	var strange []int
	for i := behind; i < n; i++ {
		if !isUnused(sectorAt(image, i)) {
			strange = append(strange, i)
		}
	}
	return strange
}

// mayLie tells whether a log may have left a sector at a place of a region.
func mayLie(b []byte, region, place int, most reach) bool {
	s, e := sector.Get(b)
	if e != api.OK || s.Tag == api.TagSuper {
		return false
	}
	return s.Place == place && s.Epoch%layout.Supers == region && s.Epoch <= most.epoch && s.Seq <= most.seq
}
