package wal_test

import (
	"fmt"
	"testing"

	"culvert/api"
	"culvert/disk"
)

// none is what Open answers where no superblock is taken, and reads till then.
func none(reads ...int) opened {
	return opened{err: api.ErrNoStore, reads: append([]int{0, 1}, reads...)}
}

// P12.2: a device of zeros, and devices of any bytes: two sectors are read, and a claim is taken.
func TestOpenOfNoLog(t *testing.T) {
	s := newSampler(1)
	for _, n := range []int{32, 33, 34, 100, 8192} {
		wantOpenWhole(t, "zeros", zeros(n), none())
		m := zeros(n)
		for i := range m {
			m[i] = s.list(size)
		}
		wantOpenWhole(t, "any bytes", m, none())
	}
}

// P12.2: a log of each epoch's region, with a checkpoint or without one, of any seq.
func TestOpenOfOneSuperblock(t *testing.T) {
	for _, n := range []int{32, 33, 34, 35} {
		r := (n - 2) / 2
		for _, epoch := range []int{1, 2, 3, 1 << 32, maxSeq - 1, maxSeq} {
			for _, seq := range []int{1, 2, 1 << 40, maxSeq} {
				first := 2 + epoch%2*r
				m := logged(n, epoch, seq, nil)
				wantOpenWhole(t, "no checkpoint", m, opened{epoch: epoch, seq: seq, reads: []int{0, 1, first}})
				m = logged(n, epoch, seq, counted(1, 3, 481))
				wantOpenWhole(t, "two pieces", m, opened{state: string(counted(1, 3, 481)), epoch: epoch, seq: seq, place: 2,
					reads: []int{0, 1, first, first + 1, first + 2}})
			}
		}
	}
}

// P12.2: a superblock that does not count, for one reason each, with the sum made right: by itself, and beside another one, which is taken whatever the epoch is that the first one tells.
func TestSuperblocksThatDoNotCount(t *testing.T) {
	const n = 32
	right := superBody(n, 1, 3, plainSum([]byte("abc")))
	cases := map[string][]byte{
		"the tag of a piece":             sec("CVD1", 4, 9, 0, right),
		"the tag of an end":              sec("CVC1", 4, 9, 0, right),
		"the tag of a one":               sec("CVO1", 4, 9, 0, right),
		"no tag":                         sec("CVX1", 4, 9, 0, right),
		"an odd epoch":                   sec("CVS1", 5, 9, 0, right),
		"an odd epoch, lower":            sec("CVS1", 3, 9, 0, right),
		"the epoch 0":                    sec("CVS1", 0, 9, 0, right),
		"an epoch above the greatest":    sec("CVS1", maxSeq+2, 9, 0, right),
		"an epoch below 0":               sec("CVS1", -2, 9, 0, right),
		"the seq 0":                      sec("CVS1", 4, 0, 0, right),
		"a seq above the greatest":       sec("CVS1", 4, maxSeq+1, 0, right),
		"the place 1":                    sec("CVS1", 4, 9, 1, right),
		"the place 2":                    sec("CVS1", 4, 9, 2, right),
		"the place 8192":                 sec("CVS1", 4, 9, 8192, right),
		"the odd epoch and place":        sec("CVS1", 5, 9, 1, right),
		"no body":                        sec("CVS1", 4, 9, 0, nil),
		"fifteen bytes":                  sec("CVS1", 4, 9, 0, right[:15]),
		"seventeen bytes":                sec("CVS1", 4, 9, 0, append(right[:16:16], 0)),
		"thirty-two bytes":               sec("CVS1", 4, 9, 0, append(right[:16:16], right...)),
		"twelve bytes":                   sec("CVS1", 4, 9, 0, right[:12]),
		"N one less":                     sec("CVS1", 4, 9, 0, superBody(31, 1, 3, plainSum([]byte("abc")))),
		"N one more":                     sec("CVS1", 4, 9, 0, superBody(33, 1, 3, plainSum([]byte("abc")))),
		"N 0":                            sec("CVS1", 4, 9, 0, superBody(0, 1, 3, plainSum([]byte("abc")))),
		"N with a high bit":              sec("CVS1", 4, 9, 0, superBody(1<<31+32, 1, 3, plainSum([]byte("abc")))),
		"K one less":                     sec("CVS1", 4, 9, 0, superBody(n, 0, 3, plainSum([]byte("abc")))),
		"K one more":                     sec("CVS1", 4, 9, 0, superBody(n, 2, 3, plainSum([]byte("abc")))),
		"K with a high bit":              sec("CVS1", 4, 9, 0, superBody(n, 1<<31+1, 3, plainSum([]byte("abc")))),
		"a length of no piece":           sec("CVS1", 4, 9, 0, superBody(n, 1, 0, 0)),
		"a length of two pieces":         sec("CVS1", 4, 9, 0, superBody(n, 1, 481, plainSum([]byte("abc")))),
		"K one above what there is room": sec("CVS1", 4, 9, 0, superBody(n, 5, 1921, 0)),
		"K far above":                    sec("CVS1", 4, 9, 0, superBody(n, 15, 15*480, 0)),
		"the greatest length":            sec("CVS1", 4, 9, 0, superBody(n, 8947849, 1<<32-1, 0)),
		"a wrong sum of the sector":      append(sec("CVS1", 4, 9, 0, right)[:511:511], 0),
	}
	for what, b := range cases {
		m := zeros(n)
		m[0] = b
		m.lay(4, 0, sec("CVD1", 4, 9, 0, []byte("abc")))
		wantOpenWhole(t, what, m, none())
		for _, epoch := range []int{1, 3, 5, 7} {
			m[1] = superFor(n, epoch, 2, nil)
			wantOpenWhole(t, what+", beside another one", m, opened{epoch: epoch, seq: 2, reads: []int{0, 1, 17}})
		}
	}
	m := logged(n, 4, 9, []byte("abc"))
	wantOpenWhole(t, "the right one", m, opened{state: "abc", epoch: 4, seq: 9, place: 1, reads: []int{0, 1, 2, 3}})
}

// P12.2: the same in the sector 1, of which the odd epochs are.
func TestSuperblocksOfTheWrongSector(t *testing.T) {
	for epoch := 1; epoch < 9; epoch++ {
		for place := range 3 {
			for at := range 2 {
				m := zeros(32)
				m[at] = sec("CVS1", epoch, 1, place, superBody(32, 0, 0, 0))
				want := none()
				if epoch%2 == at && place == at {
					want = opened{epoch: epoch, seq: 1, reads: []int{0, 1, 2 + 15*at}}
				}
				wantOpenWhole(t, fmt.Sprintf("the epoch %d, the place %d, in the sector %d", epoch, place, at), m, want)
			}
		}
	}
}

// P12.2: K + 11 may be R, and no more.
func TestRoomBehindACheckpoint(t *testing.T) {
	for _, n := range []int{32, 33, 34, 35, 36, 64} {
		r := (n - 2) / 2
		state := counted(5, 7, (r-11)*480)
		m := logged(n, 6, 3, state)
		reads := []int{0, 1}
		for place := range r - 10 {
			reads = append(reads, 2+place)
		}
		wantOpenWhole(t, "as long as may be", m, opened{state: string(state), epoch: 6, seq: 3, place: r - 11, reads: reads})
		state = append(state, 1)
		m = logged(n, 6, 3, state)
		wantOpenWhole(t, "one byte more", m, none())
	}
}

// P12.2: both count: the one with the greater epoch is taken, and no piece of the other one is read.
func TestTwoSuperblocks(t *testing.T) {
	for _, c := range []struct{ even, odd int }{{2, 1}, {2, 3}, {4, 1}, {1 << 40, 3}, {4, 1<<40 + 1}, {maxSeq, 1}, {maxSeq, maxSeq - 1}, {maxSeq - 2, maxSeq - 1}} {
		m := logged(32, c.even, 5, []byte("even"))
		odd := logged(32, c.odd, 7, []byte("odd"))
		m[1] = odd[1]
		copy(m[17:], odd[17:])
		want := opened{state: "even", epoch: c.even, seq: 5, place: 1, reads: []int{0, 1, 2, 3}}
		if c.odd > c.even {
			want = opened{state: "odd", epoch: c.odd, seq: 7, place: 1, reads: []int{0, 1, 17, 18}}
		}
		wantOpenWhole(t, fmt.Sprintf("%d and %d", c.even, c.odd), m, want)
	}
}

// breaks are the ways in which the piece at a place of a checkpoint may be wrong, with its sum made right but for the last.
func breaks(epoch, seq, place int, body []byte) map[string][]byte {
	out := map[string][]byte{
		"zeros":            make([]byte, size),
		"another tag":      sec("CVO1", epoch, seq, place, body),
		"the end's tag":    sec("CVC1", epoch, seq, place, body),
		"an older epoch":   sec("CVD1", epoch-2, seq, place, body),
		"a later epoch":    sec("CVD1", epoch+2, seq, place, body),
		"a lower seq":      sec("CVD1", epoch, seq-1, place, body),
		"a greater seq":    sec("CVD1", epoch, seq+1, place, body),
		"the place behind": sec("CVD1", epoch, seq, place+1, body),
		"too short":        sec("CVD1", epoch, seq, place, body[:len(body)-1]),
		"nothing":          sec("CVD1", epoch, seq, place, nil),
		"a wrong sum":      append(sec("CVD1", epoch, seq, place, body)[:511:511], 0),
	}
	if place > 0 {
		out["the place ahead"] = sec("CVD1", epoch, seq, place-1, body)
	}
	if len(body) < bodySize {
		out["too long"] = sec("CVD1", epoch, seq, place, append(body[:len(body):len(body)], 0))
	}
	return out
}

// P12.2: a checkpoint with a piece that is not right, or has not as many bytes as it must have: up to that one they are read; then the other superblock, if it counts.
func TestCheckpointsThatAreNotTaken(t *testing.T) {
	t.Parallel()
	for _, length := range []int{1, 479, 480, 481, 960, 961, 1919, 1920} {
		state := counted(9, 11, length)
		for place, body := range cutUp(state) {
			for what, b := range breaks(6, 8, place, body) {
				what = fmt.Sprintf("%d bytes, the piece %d: %s", length, place, what)
				m := logged(32, 6, 8, state)
				m[2+place] = b
				var reads []int
				for i := range place + 1 {
					reads = append(reads, 2+i)
				}
				wantOpenWhole(t, what, m, none(reads...))
				wantOtherTaken(t, what, m, reads)
			}
		}
	}
}

// wantOtherTaken opens a device whose superblock in the sector 0, of the epoch 6, is not taken, beside others in the sector 1.
func wantOtherTaken(t *testing.T, what string, m image, reads []int) {
	t.Helper()
	m[1] = superFor(32, 5, 4, nil)
	wantOpenWhole(t, what+"; an elder one", m, opened{epoch: 5, seq: 4, reads: append(append([]int{0, 1}, reads...), 17)})
	m[1] = superFor(32, 7, 4, []byte("the other"))
	m.lay(7, 0, sec("CVD1", 7, 4, 0, []byte("the other")))
	wantOpenWhole(t, what+"; a younger one", m, opened{state: "the other", epoch: 7, seq: 4, place: 1, reads: []int{0, 1, 17, 18}})
	m.lay(7, 0, sec("CVD1", 7, 4, 0, []byte("another")))
	wantOpenWhole(t, what+"; a younger one that is not taken", m, none(append([]int{17}, reads...)...))
	m[1] = superFor(32, 5, 4, []byte("the other"))
	wantOpenWhole(t, what+"; an elder one that is not taken", m, none(append(reads[:len(reads):len(reads)], 17)...))
}

// P12.2: a checkpoint whose pieces are right, and whose sum is another: all are read, and it is not taken; also one of no bytes.
func TestCheckpointsWithAWrongSum(t *testing.T) {
	t.Parallel()
	for _, length := range []int{0, 1, 480, 481, 1920} {
		state := counted(9, 11, length)
		for bit := range 32 {
			m := logged(32, 6, 8, state)
			m[0] = sec("CVS1", 6, 8, 0, superBody(32, plainPieces(length), length, plainSum(state)^1<<bit))
			var reads []int
			for i := range plainPieces(length) {
				reads = append(reads, 2+i)
			}
			what := fmt.Sprintf("%d bytes, the bit %d of the sum is wrong", length, bit)
			wantOpenWhole(t, what, m, none(reads...))
			wantOtherTaken(t, what, m, reads)
		}
		for i := range length {
			other := counted(9, 11, length)
			other[i] ^= 0x10
			m := logged(32, 6, 8, other)
			m[0] = superFor(32, 6, 8, state)
			wantOpen(t, fmt.Sprintf("%d bytes, the byte %d is another", length, i), m, plainOpen(m))
			if plainOpen(m).err == api.OK {
				t.Errorf("the byte %d is another, and the checkpoint is taken", i)
			}
		}
	}
}

// P12.2: what is read counts, not what lasts: superblocks, pieces and transactions that pend are believed.
func TestOpenReadsWhatPends(t *testing.T) {
	d := formatted(t, 32)
	m := logged(32, 2, 4, []byte("state"), []byte("tx"))
	for _, i := range []int{3, 2, 0} {
		d.Write(i, m[i])
	}
	arm(t, d)
	was := standOf(d)
	l := wantTold(t, "what pends", d, "state", "tx")
	wantLog(t, "what pends", d, l, 2, 5, 2, 13, 15)
	was.claimed, was.done = 1, 5
	wantStand(t, "what pends", d, was)
	d.Crash(nil)
	wantTold(t, "behind the crash", d, "")
}

// P12.2: the claim is taken ahead of all, also where Open answers an error, of each kind; a log that was open has ended then.
func TestOpenTakesAClaim(t *testing.T) {
	for _, c := range []struct {
		what   string
		before func(d *disk.Disk)
		want   api.Errno
	}{
		{"no log", func(d *disk.Disk) {
			d.Write(1, make([]byte, size))
		}, api.ErrNoStore},
		{"the first read is refused", func(d *disk.Disk) { d.Arm([]api.Fault{fault(1, io)}) }, api.ErrIO},
		{"the power fails at the first read", func(d *disk.Disk) { d.Arm([]api.Fault{fault(1, power)}) }, api.ErrPower},
		{"the second read is refused", func(d *disk.Disk) { d.Arm([]api.Fault{fault(2, io)}) }, api.ErrIO},
		{"the third read is refused", func(d *disk.Disk) { d.Arm([]api.Fault{fault(3, io)}) }, api.ErrIO},
		{"the power is off", func(d *disk.Disk) {
			d.Arm([]api.Fault{fault(1, power)})
			d.Flush()
		}, api.ErrPower},
	} {
		d := formatted(t, 32)
		l := safe(t, d)
		for range 3 {
			d.Claim()
		}
		l = safe(t, d)
		wantErr(t, "Append", l.Append([]byte("x")), api.OK)
		c.before(d)
		wantLog(t, c.what, d, l, 1, 2, 1, 14, 15)
		wantNoLog(t, c.what, d, c.want)
		if got := d.Claimed(); got != 6 {
			t.Errorf("%s: the claim is %d, want 6", c.what, got)
		}
		wantEnded(t, c.what, d, l)
	}
}
