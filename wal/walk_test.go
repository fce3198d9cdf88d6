package wal_test

import (
	"fmt"
	"math"
	"slices"
	"testing"
)

// at is the sectors from one of them on, so many.
func at(first, n int) []int {
	var out []int
	for i := range n {
		out = append(out, first+i)
	}
	return out
}

// The logs of this file have 32 sectors, the epoch 6 and the seq 8; so their region begins at the sector 2.
const (
	epoch6 = 6
	seq8   = 8
)

// standing is a log of the epoch 6 with "abc" as its checkpoint, in which these sectors stand, from place 1 on.
func standing(sectors ...[]byte) image {
	m := logged(32, epoch6, seq8, []byte("abc"))
	m.lay(epoch6, 1, sectors...)
	return m
}

// finds is what Open finds of such a log, reading so many sectors behind the checkpoint.
func finds(reads int, txs ...string) opened {
	out := opened{state: "abc", epoch: epoch6, seq: seq8, place: 1, reads: append([]int{0, 1, 2}, at(3, reads)...), txs: txs}
	for _, tx := range txs {
		out.seq++
		out.place += plainNeed(len(tx))
	}
	return out
}

// P12.2: transactions of all kinds of lengths, one and several, with the sector behind them read.
func TestOpenOfTransactions(t *testing.T) {
	for _, lengths := range [][]int{
		{}, {1}, {2}, {479}, {480}, {481}, {482}, {959}, {960}, {961}, {1440}, {1441}, {4320}, {4321}, {4799}, {4800},
		{1, 1}, {480, 480, 480}, {481, 1}, {1, 481}, {960, 960}, {961, 480, 481}, {1, 2, 3, 4, 5, 6, 7, 8, 9, 10, 11, 12, 13}, {4800, 1, 1}, {1, 4321, 480}, {481, 4799},
	} {
		var txs [][]byte
		places := 0
		for i, n := range lengths {
			txs = append(txs, counted(i+1, 7, n))
			places += plainNeed(n)
		}
		m := logged(32, epoch6, seq8, []byte("abc"), txs...)
		wantOpenWhole(t, fmt.Sprint(lengths), m, finds(min(14, places+1), texts(txs)...))
	}
}

// P12.2: all lengths of a transaction, by itself.
func TestOpenOfAllLengths(t *testing.T) {
	t.Parallel()
	for n := 1; n <= maxTx; n++ {
		tx := counted(n, 13, n)
		wantOpen(t, fmt.Sprintf("%d bytes", n), logged(32, epoch6, seq8, []byte("abc"), tx), finds(plainNeed(n)+1, string(tx)))
	}
}

// P12.2: the log ended by each kind of sector that is no transaction where one would begin, behind none and behind some.
func TestWhatEndsTheLog(t *testing.T) {
	for _, ahead := range [][]string{nil, {"one"}, {"one", string(counted(1, 1, 961)), "three"}} {
		m := standing()
		seq, place := seq8, 1
		for _, tx := range ahead {
			m.lay(epoch6, place, txSectors(epoch6, seq, place, []byte(tx))...)
			place += plainNeed(len(tx))
			seq++
		}
		want := finds(place, ahead...)
		full := counted(1, 1, 480)
		for what, b := range map[string][]byte{
			"zeros":                                   make([]byte, size),
			"other bytes":                             counted(0, 3, size),
			"an older epoch":                          sec("CVO1", epoch6-2, seq, place, []byte("x")),
			"the other region's epoch":                sec("CVO1", epoch6-1, seq, place, []byte("x")),
			"a later epoch":                           sec("CVO1", epoch6+2, seq, place, []byte("x")),
			"a lower seq":                             sec("CVO1", epoch6, seq-1, place, []byte("x")),
			"a greater seq":                           sec("CVO1", epoch6, seq+1, place, []byte("x")),
			"the place ahead":                         sec("CVO1", epoch6, seq, place-1, []byte("x")),
			"the place behind":                        sec("CVO1", epoch6, seq, place+1, []byte("x")),
			"the sector's number as place":            sec("CVO1", epoch6, seq, place+2, []byte("x")),
			"a one of no bytes":                       sec("CVO1", epoch6, seq, place, nil),
			"a wrong sum":                             append(sec("CVO1", epoch6, seq, place, []byte("x"))[:511:511], 0),
			"no tag":                                  sec("CVX1", epoch6, seq, place, []byte("x")),
			"a superblock":                            sec("CVS1", epoch6, seq, place, []byte("x")),
			"a superblock's body":                     sec("CVS1", epoch6, seq, place, superBody(32, 0, 0, 0)),
			"an end":                                  sec("CVC1", epoch6, seq, place, endFor(full)),
			"an end of nothing":                       sec("CVC1", epoch6, seq, place, endBody(0, 0, 0)),
			"an end without a body":                   sec("CVC1", epoch6, seq, place, nil),
			"a first piece of no bytes":               sec("CVD1", epoch6, seq, place, nil),
			"a first piece of one byte":               sec("CVD1", epoch6, seq, place, []byte("x")),
			"a first piece of 479 bytes":              sec("CVD1", epoch6, seq, place, full[:479]),
			"a first piece with an older epoch":       sec("CVD1", epoch6-2, seq, place, full),
			"a first piece with a lower seq":          sec("CVD1", epoch6, seq-1, place, full),
			"a first piece with a greater seq":        sec("CVD1", epoch6, seq+1, place, full),
			"a first piece of another place":          sec("CVD1", epoch6, seq, place+1, full),
			"a piece of the checkpoint, laid further": sec("CVD1", epoch6, seq8, 0, []byte("abc")),
		} {
			m := m.clone()
			m.lay(epoch6, place, b)
			// Behind it stands what would go on, if it were looked at.
			m.lay(epoch6, place+1, sec("CVO1", epoch6, seq, place+1, []byte("behind")), sec("CVC1", epoch6, seq, place+2, endFor(full)))
			wantOpenWhole(t, fmt.Sprintf("behind %d transactions: %s", len(ahead), what), m, want)
		}
	}
}

// P12.2: a full first piece, and what may stand behind it: just a second piece goes on.
func TestWhatEndsTheLogBehindAPiece(t *testing.T) {
	full := counted(1, 1, 480)
	first := sec("CVD1", epoch6, seq8, 1, full)
	for what, b := range map[string][]byte{
		"zeros":                       make([]byte, size),
		"an end":                      sec("CVC1", epoch6, seq8, 2, endFor(full)),
		"an end that tells one piece": sec("CVC1", epoch6, seq8, 2, endBody(1, 480, plainSum(full))),
		"an end that tells two":       sec("CVC1", epoch6, seq8, 2, endBody(2, 480, plainSum(full))),
		"a one":                       sec("CVO1", epoch6, seq8, 2, []byte("x")),
		"a one of the next seq":       sec("CVO1", epoch6, seq8+1, 2, []byte("x")),
		"a superblock":                sec("CVS1", epoch6, seq8, 2, full),
		"a piece of no bytes":         sec("CVD1", epoch6, seq8, 2, nil),
		"a piece of an older epoch":   sec("CVD1", epoch6-2, seq8, 2, full),
		"a piece of a lower seq":      sec("CVD1", epoch6, seq8-1, 2, full),
		"a piece of the next seq":     sec("CVD1", epoch6, seq8+1, 2, full),
		"a piece of another place":    sec("CVD1", epoch6, seq8, 1, full),
		"a piece with a wrong sum":    append(sec("CVD1", epoch6, seq8, 2, full)[:511:511], 0),
	} {
		m := standing(first, b, sec("CVC1", epoch6, seq8, 3, endFor(full)), sec("CVO1", epoch6, seq8, 4, []byte("x")))
		wantOpenWhole(t, "behind a piece: "+what, m, finds(2))
	}
	for n := 1; n <= 480; n++ {
		tx := slices.Concat(full, full[:n])
		m := standing(first, sec("CVD1", epoch6, seq8, 2, full[:n]), sec("CVC1", epoch6, seq8, 3, endFor(tx)))
		wantOpen(t, fmt.Sprintf("a second piece of %d bytes", n), m, finds(4, string(tx)))
	}
}

// P12.2: a later piece that is not full: just an end goes on, not a further piece.
func TestShortPieces(t *testing.T) {
	full := counted(1, 1, 480)
	for k := 2; k <= 9; k++ {
		for _, n := range []int{1, 240, 479} {
			tx := append(slices.Repeat(full, k-1), full[:n]...)
			m := standing(pieceSectors(epoch6, seq8, 1, tx)...)
			long := append(slices.Clone(tx), full...)
			m.lay(epoch6, 1+k, sec("CVD1", epoch6, seq8, 1+k, full), sec("CVC1", epoch6, seq8, 2+k, endBody(k+1, len(long), plainSum(long))))
			wantOpenWhole(t, fmt.Sprintf("%d pieces, the last of %d bytes, and one more", k, n), m, finds(k+1))
			m.lay(epoch6, 1+k, sec("CVD1", epoch6, seq8, 1+k, nil), sec("CVC1", epoch6, seq8, 2+k, endFor(tx)))
			wantOpenWhole(t, fmt.Sprintf("%d pieces, the last of %d bytes, and an empty one", k, n), m, finds(k+1))
			m.lay(epoch6, 1+k, sec("CVC1", epoch6, seq8, 1+k, endFor(tx)), sec("CVO1", epoch6, seq8+1, 2+k, []byte("next")))
			wantOpenWhole(t, fmt.Sprintf("%d pieces, the last of %d bytes, and their end", k, n), m, finds(k+3, string(tx), "next"))
		}
	}
}

// P12.2: behind a tenth piece just an end goes on; an eleventh ends the log.
func TestElevenPieces(t *testing.T) {
	for _, n := range []int{4800, 4799, 4321} {
		tx := counted(3, 5, n)
		m := standing(pieceSectors(epoch6, seq8, 1, tx)...)
		wantOpenWhole(t, "ten pieces", m, finds(11))
		for _, more := range []int{1, 480} {
			long := append(slices.Clone(tx), counted(7, 1, more)...)
			m.lay(epoch6, 11, sec("CVD1", epoch6, seq8, 11, long[n:]), sec("CVC1", epoch6, seq8, 12, endBody(11, len(long), plainSum(long))))
			wantOpenWhole(t, fmt.Sprintf("%d bytes and an eleventh piece", n), m, finds(11))
			m.lay(epoch6, 12, sec("CVC1", epoch6, seq8, 12, endFor(tx)))
			wantOpenWhole(t, fmt.Sprintf("%d bytes, an eleventh piece and the end of ten", n), m, finds(11))
		}
		m.lay(epoch6, 11, sec("CVC1", epoch6, seq8, 11, endFor(tx)))
		wantOpenWhole(t, "ten pieces and an end", m, finds(12, string(tx)))
	}
}

// P12.2: ends that are not just the end of the pieces ahead: a wrong number of pieces, length or sum, a body of other than ten bytes, another tag, epoch, seq or place.
func TestWrongEnds(t *testing.T) {
	t.Parallel()
	for _, n := range []int{481, 960, 961, 1440, 4321, 4800} {
		tx := counted(n, 3, n)
		k, sum := plainPieces(n), plainSum(tx)
		place := 1 + k
		right := endFor(tx)
		cases := map[string][]byte{
			"no body":              sec("CVC1", epoch6, seq8, place, nil),
			"nine bytes":           sec("CVC1", epoch6, seq8, place, right[:9]),
			"eleven bytes":         sec("CVC1", epoch6, seq8, place, append(right[:10:10], 0)),
			"twenty bytes":         sec("CVC1", epoch6, seq8, place, slices.Repeat(right, 2)),
			"480 bytes":            sec("CVC1", epoch6, seq8, place, append(right[:10:10], make([]byte, 470)...)),
			"one piece less":       sec("CVC1", epoch6, seq8, place, endBody(k-1, n, sum)),
			"one piece more":       sec("CVC1", epoch6, seq8, place, endBody(k+1, n, sum)),
			"256 pieces more":      sec("CVC1", epoch6, seq8, place, endBody(k+256, n, sum)),
			"one byte less":        sec("CVC1", epoch6, seq8, place, endBody(k, n-1, sum)),
			"one byte more":        sec("CVC1", epoch6, seq8, place, endBody(k, n+1, sum)),
			"65536 bytes more":     sec("CVC1", epoch6, seq8, place, endBody(k, n+65536, sum)),
			"the sum of less":      sec("CVC1", epoch6, seq8, place, endBody(k, n, plainSum(tx[:n-1]))),
			"no sum":               sec("CVC1", epoch6, seq8, place, endBody(k, n, 0)),
			"another tag":          sec("CVO1", epoch6, seq8, place, right),
			"the tag of a super":   sec("CVS1", epoch6, seq8, place, right),
			"no tag":               sec("CVX1", epoch6, seq8, place, right),
			"an older epoch":       sec("CVC1", epoch6-2, seq8, place, right),
			"a lower seq":          sec("CVC1", epoch6, seq8-1, place, right),
			"a greater seq":        sec("CVC1", epoch6, seq8+1, place, right),
			"the place ahead":      sec("CVC1", epoch6, seq8, place-1, right),
			"the place behind":     sec("CVC1", epoch6, seq8, place+1, right),
			"a wrong sector's sum": append(sec("CVC1", epoch6, seq8, place, right)[:511:511], 0),
		}
		for bit := range 32 {
			cases[fmt.Sprintf("the bit %d of the sum", bit)] = sec("CVC1", epoch6, seq8, place, endBody(k, n, sum^1<<bit))
		}
		for what, b := range cases {
			m := standing(append(pieceSectors(epoch6, seq8, 1, tx), b, sec("CVC1", epoch6, seq8, place+1, right), sec("CVO1", epoch6, seq8+1, place+1, []byte("x")))...)
			wantOpenWhole(t, fmt.Sprintf("%d bytes: %s", n, what), m, finds(k+1))
		}
	}
}

// P12.2: pieces whose bytes are others than those of which the end tells the sum.
func TestEndsOfOtherPieces(t *testing.T) {
	for _, n := range []int{481, 961} {
		tx := counted(n, 3, n)
		for i := range n {
			other := slices.Clone(tx)
			other[i] ^= 0x80
			m := standing(txSectors(epoch6, seq8, 1, tx)...)
			m.lay(epoch6, 1, pieceSectors(epoch6, seq8, 1, other)...)
			wantOpen(t, fmt.Sprintf("%d bytes, the byte %d is another", n, i), m, finds(plainNeed(n)))
		}
	}
}

// P12.2: rows of pieces that break off at each place, by each way of breaking off.
func TestRowsThatBreakOff(t *testing.T) {
	tx := counted(2, 3, 4700)
	whole := txSectors(epoch6, seq8, 1, tx)
	for broken := range len(whole) {
		for what, b := range map[string][]byte{
			"zeros":            make([]byte, size),
			"an older epoch":   sec("CVD1", epoch6-2, seq8, 1+broken, counted(1, 1, 480)),
			"another seq":      sec("CVD1", epoch6, seq8+1, 1+broken, counted(1, 1, 480)),
			"another place":    sec("CVD1", epoch6, seq8, 2+broken, counted(1, 1, 480)),
			"nothing in it":    sec("CVD1", epoch6, seq8, 1+broken, nil),
			"a superblock":     sec("CVS1", epoch6, seq8, 1+broken, counted(1, 1, 480)),
			"the end too soon": sec("CVC1", epoch6, seq8, 1+broken, endFor(tx)),
		} {
			if broken == len(whole)-1 && what == "the end too soon" {
				continue // there it is not
			}
			m := standing(whole...)
			m.lay(epoch6, 1+broken, b)
			wantOpenWhole(t, fmt.Sprintf("broken off at %d: %s", broken, what), m, finds(broken+1))
		}
	}
}

// P12.2: at the region's end: nothing behind its last place is read, whatever stands there; a row of pieces that reaches it is none.
func TestTheRegionsLastPlace(t *testing.T) {
	for _, n := range []int{32, 33} {
		for _, epoch := range []int{5, 6} {
			first := 2 + epoch%2*15
			for from := 1; from < 15; from++ {
				var txs [][]byte
				for i := 1; i < from; i++ {
					txs = append(txs, counted(i, 1, i))
				}
				m := logged(n, epoch, seq8, []byte("abc"), txs...)
				seq := seq8 + len(txs)
				want := opened{state: "abc", txs: texts(txs), epoch: epoch, seq: seq, place: from, reads: append([]int{0, 1}, at(first, 15)...)}
				// As many pieces as there are places left, at most ten, then what would be their end.
				pieces := min(15-from, 10)
				tx := counted(from, 1, pieces*480)
				long := m.clone()
				for i, body := range cutUp(tx) {
					long.lay(epoch, from+i, sec("CVD1", epoch, seq, from+i, body))
				}
				if last := first + 15; last < n && pieces == 15-from {
					long[last] = sec("CVC1", epoch, seq, 15, endFor(tx))
				}
				want.reads = want.reads[:min(2+from+pieces+1, 17)]
				wantOpenWhole(t, fmt.Sprintf("%d pieces up to the last place", pieces), long, want)
			}
		}
	}
}

// P12.2: a region filled to its last place by transactions is read to its last place, and no further.
func TestFullRegions(t *testing.T) {
	for _, lengths := range [][]int{{4800, 1, 480, 2}, {1, 2, 3, 4800}, {480, 961, 2880, 480}, {960, 960, 960, 960, 1, 1}} {
		var txs [][]byte
		places := 1
		for i, n := range lengths {
			txs = append(txs, counted(i+1, 7, n))
			places += plainNeed(n)
		}
		for places < 15 {
			txs = append(txs, counted(places, 1, 5))
			places++
		}
		for _, n := range []int{32, 33} {
			for _, epoch := range []int{5, 6} {
				m := logged(n, epoch, seq8, []byte("abc"), txs...)
				if last := m.first(epoch) + 15; last < n {
					m[last] = sec("CVO1", epoch, seq8+len(txs), 15, []byte("behind"))
				}
				reads := append([]int{0, 1}, at(m.first(epoch), 15)...)
				wantOpenWhole(t, fmt.Sprint(lengths), m, opened{state: "abc", txs: texts(txs), epoch: epoch, seq: seq8 + len(txs), place: 15, reads: reads})
			}
		}
	}
}

// P12.2: behind a transaction of the seq MaxSeq the log ends unread.
func TestTheGreatestSeq(t *testing.T) {
	long := counted(1, 1, 4800)
	for back := range 4 {
		var txs [][]byte
		for i := range back + 1 {
			txs = append(txs, counted(i, 1, 481))
		}
		m := logged(64, 7, maxSeq-back, nil, txs...)
		place := 3 * len(txs)
		for _, b := range [][]byte{
			make([]byte, size), sec("CVO1", 7, maxSeq, place, []byte("x")), sec("CVO1", 7, maxSeq+1, place, []byte("x")), sec("CVO1", 7, 1, place, []byte("x")),
		} {
			m.lay(7, place, b)
			wantOpenWhole(t, "at the greatest seq", m, opened{txs: texts(txs), epoch: 7, seq: maxSeq + 1, place: place, reads: append([]int{0, 1}, at(33, place)...)})
		}
		m = logged(64, 7, maxSeq-back, nil, append(txs, long)[:back+1]...)
		m.lay(7, place, txSectors(7, maxSeq+1, place, long)...)
		wantOpenWhole(t, "at the greatest seq", m, opened{txs: texts(txs), epoch: 7, seq: maxSeq + 1, place: place, reads: append([]int{0, 1}, at(33, place)...)})
	}
	m := logged(64, 7, maxSeq, nil)
	wantOpenWhole(t, "the greatest seq is the next", m, opened{epoch: 7, seq: maxSeq, reads: []int{0, 1, 33}})
	if maxSeq+1 > math.MaxInt {
		t.Errorf("no int is behind the greatest seq")
	}
}

// P12.2: the greatest device, full of transactions, and with the longest checkpoint.
func TestOpenOfTheGreatestDevice(t *testing.T) {
	const r = 4095
	var txs [][]byte
	for i := range r / 3 {
		txs = append(txs, counted(i, 1, 481+i%480))
	}
	m := logged(8192, 9, 77, nil, txs...)
	reads := append([]int{0, 1}, at(2+r, r)...)
	wantOpen(t, "full of transactions", m, opened{txs: texts(txs), epoch: 9, seq: 77 + len(txs), place: r, reads: reads})
	state := counted(3, 7, (r-11)*480)
	m = logged(8192, 9, 77, state, counted(1, 1, 4800))
	wantOpen(t, "the longest checkpoint", m, opened{state: string(state), txs: texts([][]byte{counted(1, 1, 4800)}), epoch: 9, seq: 78, place: r, reads: reads})
}

// image is a log with both superblocks, in which some sectors have been turned into others, with the sums made right.
func (s sampler) image() image {
	n := pick(s, 32, 33, 34, 40)
	e := pick(s, 2, 3, 8, 9, maxSeq-1)
	seq := pick(s, 1, 2, 50, maxSeq-2, maxSeq)
	m := zeros(n)
	for _, epoch := range []int{e - 1, e} {
		if s.IntN(8) == 0 {
			continue
		}
		state := s.list(pick(s, 0, 0, 1, 480, 481, 960, 1920))
		left, next := m.room()-plainPieces(len(state)), seq
		var txs [][]byte
		for next <= maxSeq && s.IntN(6) > 0 {
			tx := s.list(s.txLength())
			if plainNeed(len(tx)) > left {
				break
			}
			txs = append(txs, tx)
			left -= plainNeed(len(tx))
			next++
		}
		one := logged(n, epoch, seq, state, txs...)
		m[epoch%2] = one[epoch%2]
		copy(m[m.first(epoch):m.first(epoch)+m.room()], one[m.first(epoch):])
	}
	for range s.IntN(3) {
		at := pick(s, 0, 1, 2+s.IntN(n-2), 2+s.IntN(n-2), 2+s.IntN(n-2))
		m[at] = s.turned(m, at)
	}
	return m
}

// turned is a sector that is a little other than the one that stands there.
func (s sampler) turned(m image, at int) []byte {
	p := partOf(m[at])
	body := []byte(p.body)
	switch s.IntN(9) {
	case 0:
		return make([]byte, size)
	case 1:
		p.tag = pick(s, "CVS1", "CVD1", "CVC1", "CVO1", "CVO1")
	case 2:
		p.epoch += pick(s, -2, -1, 1, 2)
	case 3:
		p.seq += pick(s, -1, 1, 2)
	case 4:
		p.place += pick(s, -1, 1)
	case 5:
		body = body[:len(body)-s.IntN(len(body)+1)>>s.IntN(9)]
	case 6:
		body = append(body, s.list(s.IntN(bodySize-len(body)+1)>>s.IntN(9))...)
	case 7:
		if len(body) > 0 {
			body[s.IntN(len(body))] ^= 1 << s.IntN(8)
		}
	case 8:
		return m[s.IntN(len(m))]
	}
	return sec(p.tag+"\x00\x00\x00\x00"[len(p.tag):], p.epoch, p.seq, p.place, body)
}

// P12.2: many logs, right ones and such with some sectors turned, against the plain Open.
func TestOpenOfSamples(t *testing.T) {
	t.Parallel()
	s := newSampler(2)
	count := map[string]int{}
	for range 10000 {
		m := s.image()
		want := plainOpen(m)
		wantOpen(t, "a sample", m, want)
		count[fmt.Sprint(want.err)]++
		if len(want.txs) > 0 {
			count["transactions"]++
		}
		if want.state != "" {
			count["a checkpoint"]++
		}
		if t.Failed() {
			return
		}
	}
	if len(count) != 4 || count["transactions"] < 3000 || count["a checkpoint"] < 3000 {
		t.Errorf("the samples try too little: %v", count)
	}
}
