package audit_test

import (
	"bytes"
	"fmt"
	"testing"
)

// logs are devices of one log each, sound ones, behind which the epoch and the next seq are as told; those that say 0 have none. Their other half is zeros.
func logs(n int) map[string]struct {
	m           image
	epoch, next int
} {
	type standing = struct {
		m           image
		epoch, next int
	}
	boots := setBytes(rowsOf(nil, nil, 3)...)
	wide := setBytes(rowsOf(fullWide())...)
	younger := logged(n, 7, 41, nil).with(0, sec("CVS1", 8, 41, 0, superBody(n, 1, 100, 9)))
	return map[string]standing{
		"a new store":                 {logged(n, 1, 1, nil), 1, 1},
		"transactions":                {logged(n, 6, 40, boots, boots, boots), 6, 42},
		"a long one":                  {logged(n, 7, 40, boots, wide), 7, 41},
		"a younger superblock beside": {younger, 7, 41}, // it counts, and is not taken
		"no store":                    {zeros(n), 0, 0},
		"a checkpoint that is gone":   {zeros(n).with(0, superFor(n, 6, 40, boots)), 0, 0},
	}
}

// wantSector: the line of a sector if, and only if, it is told that there is one; and the state's, where there is no store.
func wantSector(t *testing.T, what string, m image, i int, b []byte, strange bool) {
	t.Helper()
	want := []string{}
	if strange {
		want = append(want, fmt.Sprintf("sector %d", i))
	}
	if plainLog(m).epoch == 0 {
		want = append(want, "state 110")
	}
	if got := checkOf(m.with(i, b).bytes()); !got.same(checked{lines: want}) {
		t.Fatalf("%s: in the sector %d of %d %q %x: Check = %q, %d, want %q", what, i, len(m), b[:4], b[4:32], got.lines, got.err, want)
	}
}

// places are some of a region: the first ones that are not used, those in the midst, the last ones.
func (m image) places(epoch int) []int {
	var out []int
	for place := range m.room() {
		if isZeros(m[m.first(epoch)+place]) {
			out = append(out, place)
		}
	}
	free := len(out)
	return []int{out[1], out[free/2], out[free-2], out[free-1]}
}

// P24.2: each condition for a sector of a region alone, all the others being met.
func TestSectors(t *testing.T) {
	t.Parallel()
	for _, n := range []int{32, 33, 64} {
		for what, l := range logs(n) {
			for region := range 2 {
				for _, place := range l.m.places(region) {
					at := l.m.first(region) + place
					// An elder epoch of the region, of the log's beginning.
					epoch, seq := 2-region, 1
					one := func(tag string, epoch, seq, place int) []byte { return sec(tag, epoch, seq, place, []byte("abc")) }
					want := func(why string, b []byte, strange bool) {
						t.Helper()
						wantSector(t, what+": "+why, l.m, at, b, strange)
					}
					if epoch <= l.epoch+1 || l.epoch == 0 {
						want("a piece", one("CVD1", epoch, seq, place), false)
						want("an end", one("CVC1", epoch, seq, place), false)
						want("one", one("CVO1", epoch, seq, place), false)
						want("a body of no bytes", sec("CVD1", epoch, seq, place, nil), false)
						want("a full body", sec("CVC1", epoch, seq, place, bytes.Repeat([]byte{7}, 480)), false)
					}
					want("zeros", make([]byte, size), false)
					want("a superblock's tag", one("CVS1", epoch, seq, place), true)
					want("a superblock", superFor(n, 2-region, 1, nil), true)
					want("no tag of these", one("CVX1", epoch, seq, place), true)
					want("the next place", one("CVO1", epoch, seq, place+1), true)
					want("the place ahead", one("CVO1", epoch, seq, max(place-1, 0)), place > 0)
					want("the sector as the place", one("CVO1", epoch, seq, at), true)
					want("the place in both regions", one("CVO1", epoch, seq, place+l.m.room()), true)
					want("the other region's epoch", one("CVO1", epoch+1, seq, place), true)
					want("the other region's epoch, a greater one", one("CVO1", epoch+3, seq, place), true)
				}
			}
		}
	}
}

// P24.2: the greatest epoch and the greatest seq that may be, by the log that is taken; without one all may.
func TestSectorsReach(t *testing.T) {
	t.Parallel()
	for _, n := range []int{32, 33} {
		for what, l := range logs(n) {
			for region := range 2 {
				for _, place := range l.m.places(region) {
					at := l.m.first(region) + place
					none := l.epoch == 0
					for _, epoch := range []int{1, 2, 3, l.epoch - 1, l.epoch, l.epoch + 1, l.epoch + 2, l.epoch + 3, l.epoch + 4, maxSeq - 1, maxSeq} {
						for _, seq := range []int{1, l.next - 1, l.next, l.next + 1, l.next + 2, maxSeq} {
							if epoch < 1 || seq < 1 {
								continue
							}
							why := fmt.Sprintf("%s: the epoch %d, of which %d is taken, the seq %d, of which %d is next", what, epoch, l.epoch, seq, l.next)
							strange := epoch%2 != region || !none && (epoch > l.epoch+1 || seq > l.next)
							// An end: what goes on with the log is another thing.
							wantSector(t, why, l.m, at, sec("CVC1", epoch, seq, place, nil), strange)
						}
					}
				}
			}
		}
	}
}

// P24.2: at the bounds of the numbers: an epoch above the greatest one, a seq above the greatest one are no sector's.
func TestSectorsBounds(t *testing.T) {
	t.Parallel()
	boots := setBytes(rowsOf(nil, nil, 3)...)
	m := logged(32, maxSeq, maxSeq, nil, boots) // region 0
	wantLines(t, "the greatest epoch and seq", m.bytes(), "state 113")
	for i, c := range map[int][]byte{5: sec("CVD1", maxSeq, maxSeq, 3, nil), 6: sec("CVD1", maxSeq-2, maxSeq, 4, nil), 20: sec("CVD1", maxSeq-1, maxSeq, 3, nil)} {
		wantLines(t, "the greatest numbers", m.with(i, c).bytes(), "state 113")
	}
	beyond := map[string][]byte{
		"an epoch above": raw("CVD1", maxSeq+2, 1, 3, 0, 0, nil),
		"a seq above":    raw("CVD1", 2, maxSeq+1, 3, 0, 0, nil),
		"far above":      raw("CVD1", 1<<63, 1<<63, 3, 0, 0, nil),
		"the epoch 0":    raw("CVD1", 0, 1, 3, 0, 0, nil),
		"the seq 0":      raw("CVD1", 2, 0, 3, 0, 0, nil),
	}
	for what, b := range beyond {
		wantLines(t, what, m.with(5, b).bytes(), "sector 5", "state 113")
		wantLines(t, what+" of no log", zeros(32).with(5, b).bytes(), "sector 5", "state 110")
	}
	// A log whose next seq is the greatest, of the greatest epoch but one: no sector is beyond.
	m = logged(32, maxSeq-1, maxSeq, boots)
	wantLines(t, "the epoch above, the next seq", m.with(7, sec("CVD1", maxSeq, maxSeq, 5, nil)).bytes())
	m = logged(32, maxSeq-3, maxSeq-1, boots)
	wantLines(t, "one above the epoch", m.with(7, sec("CVD1", maxSeq-2, maxSeq-1, 5, nil)).bytes())
	wantLines(t, "three above the epoch", m.with(7, sec("CVD1", maxSeq, maxSeq-1, 5, nil)).bytes(), "sector 7")
	wantLines(t, "one above the seq", m.with(7, sec("CVD1", maxSeq-2, maxSeq, 5, nil)).bytes(), "sector 7")
}

// P24.2: what sector.Get does not take may not lie anywhere; sums are made right by hand, so that each of these is refused for what it says.
func TestSectorsNobodyWrote(t *testing.T) {
	t.Parallel()
	for _, n := range []int{32, 33} {
		for what, l := range logs(n) {
			for region := range 2 {
				epoch := uint64(2 - region)
				if int(epoch) > l.epoch+1 && l.epoch > 0 {
					continue
				}
				for _, place := range l.m.places(region) {
					at := l.m.first(region) + place
					p := uint32(place)
					right := raw("CVD1", epoch, 1, p, 3, 0, []byte("abc"))
					wantSector(t, what+": a sum that was made right", l.m, at, right, false)
					for why, b := range map[string][]byte{
						"more used than there is": raw("CVD1", epoch, 1, p, 481, 0, nil),
						"much more used":          raw("CVD1", epoch, 1, p, 0xFFFF, 0, nil),
						"less used than there is": raw("CVD1", epoch, 1, p, 2, 0, []byte("abc")),
						"the last byte of a body": raw("CVD1", epoch, 1, p, 479, 0, bytes.Repeat([]byte{1}, 480)),
						"zeros that are none":     raw("CVD1", epoch, 1, p, 3, 1, []byte("abc")),
						"a place beyond":          raw("CVD1", epoch, 1, 8192, 3, 0, []byte("abc")),
						"a place that wraps":      raw("CVD1", epoch, 1, p+1<<16, 3, 0, []byte("abc")),
						"an epoch that wraps":     raw("CVD1", epoch+1<<63, 1, p, 3, 0, []byte("abc")),
						"a seq that wraps":        raw("CVD1", epoch, 1+1<<63, p, 3, 0, []byte("abc")),
						"a tag in small letters":  raw("cvd1", epoch, 1, p, 3, 0, []byte("abc")),
						"no tag":                  raw("\x00\x00\x00\x00", epoch, 1, p, 3, 0, []byte("abc")),
						"another sum":             turned(right, 508, 0x10),
						"another byte":            turned(right, 28, 1),
						"a byte alone":            turned(make([]byte, size), 256, 1),
						"the last byte alone":     turned(make([]byte, size), 511, 1),
						"zeros with their sum":    summed(make([]byte, size)),
						"all ones":                bytes.Repeat([]byte{0xFF}, size),
					} {
						wantSector(t, what+": "+why, l.m, at, b, true)
					}
				}
			}
		}
	}
}

// P24.2: behind the regions, in an odd last sector, nothing may lie.
func TestOddLastSector(t *testing.T) {
	t.Parallel()
	for _, n := range []int{33, 35, 65, 8191} {
		room := (n - 2) / 2
		for what, l := range logs(n) {
			last := n - 1
			wantSector(t, what+": zeros", l.m, last, make([]byte, size), false)
			for epoch := 1; epoch <= 2; epoch++ {
				for _, place := range []int{0, room - 1, room, room + 1, 2 * room, last, last - 2} {
					wantSector(t, fmt.Sprintf("%s: the epoch %d, the place %d", what, epoch, place), l.m, last, sec("CVO1", epoch, 1, place, []byte("abc")), true)
				}
			}
			wantSector(t, what+": a byte", l.m, last, turned(make([]byte, size), 0, 1), true)
			wantSector(t, what+": the last byte", l.m, last, turned(make([]byte, size), 511, 1), true)
			if n > 1000 {
				break
			}
		}
	}
	// An even one has no such sector: the last one is the second region's.
	for _, n := range []int{32, 34, 8192} {
		m := logged(n, 1, 1, nil)
		wantSector(t, "the last one of the region 1", m, n-1, sec("CVO1", 1, 1, (n-2)/2-1, []byte("abc")), false)
		wantSector(t, "the last one of the region 1", m, n-1, sec("CVO1", 1, 1, (n-2)/2, []byte("abc")), true)
		wantSector(t, "the last one of the region 0", m, (n-2)/2+1, sec("CVO1", 2, 1, (n-2)/2-1, []byte("abc")), false)
		wantSector(t, "the first one of the region 1", m, (n-2)/2+2, sec("CVO1", 2, 1, (n-2)/2, []byte("abc")), true)
	}
}

// P24.2: what lies in the log itself is asked no less: places that the log has gone over, ends and pieces of what was given up.
func TestSectorsOfTheLog(t *testing.T) {
	t.Parallel()
	boots := setBytes(rowsOf(nil, nil, 3)...)
	wide := setBytes(rowsOf(fullWide())...)
	m := logged(32, 6, 40, boots, boots, wide) // places 0, 1, 2 to 4 of the region 0
	next := 42
	wantLines(t, "a log", m.bytes())
	// A transaction that was given up: pieces of the next seq, no end; and one of the epoch above in the other region.
	given := m.clone()
	copy(given[2+5:], pieceSectors(6, next, 5, wide))
	copy(given[17:], pieceSectors(7, next, 0, wide))
	wantLines(t, "pieces that were given up", given.bytes())
	// Pieces of the seq above that.
	copy(given[2+5:], pieceSectors(6, next+1, 5, wide))
	wantLines(t, "pieces of a seq above", given.bytes(), "sector 7", "sector 8")
	// When the log's last transaction is broken, the next seq is one less, and its own sectors are still of it.
	broken := m.with(6, make([]byte, size))
	wantLines(t, "no end", broken.bytes())
	wantLines(t, "a seq above the broken one", broken.with(10, sec("CVD1", 6, next, 8, nil)).bytes(), "sector 10")
	// What stands behind a transaction that was broken is of seqs above.
	broken = m.with(3, make([]byte, size))
	wantLines(t, "a transaction that is missing", broken.bytes(), "sector 4", "sector 5", "sector 6")
}
