package store_test

import (
	"fmt"
	"slices"
	"strings"
	"testing"

	"culvert/api"
)

// flips are so many transactions of one sector, each of which sets one key to something else: they fill a region.
func flips(n int) [][]api.Set {
	var out [][]api.Set
	for i := range n {
		out = append(out, sets(set("flip", string(rune('0'+i%10)))))
	}
	return out
}

// seat is a device, and how a store over it stands.
type seat struct {
	what string
	m    image
	p    plain
}

func at(what string, n, epoch, seq int, r rows, txs ...[]api.Set) seat {
	m, p := stands(n, epoch, seq, r, txs...)
	return seat{what, m, p}
}

func (c seat) wantCommit(t *testing.T, l []api.Set, want api.Errno) committed {
	t.Helper()
	return wantCommit(t, c.what, over(t, c.m), c.p, l, want)
}

// P14.6: the operations of a Commit, in their order, each refused by itself, with a checkpoint and without, from stores in both regions, at several places, seqs and epochs.
func TestCommit(t *testing.T) {
	few := rows{"a": "1", "b": "2"}
	turned := map[bool]int{}
	for _, c := range []seat{
		at("new", 32, 1, 1, rows{}),
		at("few rows", 33, 2, 5, few),
		at("many rows", 34, 3, 1<<40, filled("s", 2400, 1)),
		at("a few sectors left", 32, 4, 9, filled("s", 900, 2), flips(9)...),
		at("one sector left", 32, 5, 9, rows{}, flips(14)...),
		at("full", 32, 6, 9, rows{}, flips(15)...),
		at("full, many rows", 32, 7, 9, filled("s", 1900, 3), flips(11)...),
		at("emptied and full", 32, 8, 9, few, append(flips(12), sets(gone("flip")), few.allGone())...),
		at("full, the greatest but one", 32, maxSeq-1, maxSeq-15, rows{}, flips(15)...),
		at("a greater device", 64, 9, 9, filled("s", 9000, 4), flips(9)...),
	} {
		for _, l := range [][]api.Set{
			sets(set("c", "3")),
			sets(set("a", "0"), set("a", "1"), set("z", ""), gone("flip")),
			sets(set(strings.Repeat("k", maxKey), counted(1, 3, 436))), // 480 bytes
			sets(set(strings.Repeat("k", maxKey), counted(1, 3, 437))), // 481 bytes
			sets(set("x", great(1)), set("y", great(2))),
			c.p.rows.allGone(),
		} {
			want := api.OK
			if !c.p.fits(c.p.rows.after(l)) {
				want = api.ErrFull
			}
			got := c.wantCommit(t, l, want)
			if want == api.OK && !got.nothing {
				turned[got.turned]++
			}
		}
	}
	if turned[true] < 12 || turned[false] < 20 {
		t.Errorf("%v commits with and without a checkpoint: that tries too little", turned)
	}
}

// changed are sets whose transaction has just so many bytes: of keys that are not there.
func changed(n int) []api.Set { return filled("x", n, 9).asSets() }

// P14.5, P14.6: all edges of the transaction's length, up to MaxTx bytes, and one byte more.
func TestTransactionsEdges(t *testing.T) {
	c := at("room for all", 64, 2, 5, rows{"a": "1"})
	for _, n := range []int{6, 7, 479, 480, 481, 482, 959, 960, 961, 1440, 1441, 4319, 4320, 4321, 4799, 4800} {
		c.wantCommit(t, changed(n), api.OK)
	}
	for _, n := range []int{4801, 4802, 5280, 5281, 9000, 9599} {
		c.wantCommit(t, changed(n), api.ErrTxBig)
	}
	// What is counted is the change, not the list.
	long := changed(4800)
	c.wantCommit(t, append(changed(4000), long...), api.OK)
	c.wantCommit(t, append(filled("y", 4000, 1).asSets(), append(filled("y", 4000, 1).allGone(), long...)...), api.OK)
	c.wantCommit(t, append(long, set("a", "1"), gone("none")), api.OK)
	c.wantCommit(t, append(long, set("a", "2")), api.ErrTxBig)
	c.wantCommit(t, append(long, gone("a")), api.ErrTxBig)
}

// longKeys are so many rows with keys of 40 bytes and without a value.
func longKeys(n int) rows {
	out := rows{}
	for i := range n {
		out[fmt.Sprintf("%040d", i)] = ""
	}
	return out
}

// P14.5: a transaction of deletes alone, of MaxTx bytes and one byte more: 108 of keys of 40 bytes are 4,752, two of 20 bytes make 4,800.
func TestDeletesEdges(t *testing.T) {
	many := longKeys(108)
	x, y, z := strings.Repeat("x", 20), strings.Repeat("y", 20), strings.Repeat("z", 21)
	all := many.after(sets(set(x, ""), set(y, ""), set(z, "")))
	c := at("many rows", 64, 2, 5, all)
	one := fmt.Sprintf("%040d", 7)
	for _, call := range []struct {
		more   []api.Set // behind those by which the many are gone
		length int       // of the transaction
		want   api.Errno
	}{
		{nil, 4752, api.OK},
		{sets(gone(x), gone(y)), 4800, api.OK},
		{sets(gone(x), gone(z)), 4801, api.ErrTxBig},
		{sets(gone(z), gone(y), gone(x)), 4825, api.ErrTxBig},
		{sets(gone(x), gone(y), gone("none")), 4800, api.OK},
		{sets(gone(x), gone(y), gone(z), set(z, "")), 4800, api.OK},
		{sets(set(one, "")), 4708, api.OK},
		{sets(set(one, counted(1, 1, 48))), 4800, api.OK},
		{sets(set(one, counted(1, 1, 49))), 4801, api.ErrTxBig},
		{many.asSets(), 0, api.OK},
		{append(many.asSets(), gone(x)), 24, api.OK},
	} {
		l := append(many.allGone(), call.more...)
		if n := len(setBytes(all.change(all.after(l)))); n != call.length {
			t.Errorf("the transaction has %d bytes, want %d", n, call.length)
		}
		c.wantCommit(t, l, call.want)
	}
}

// P14.5: the state behind at the edge of the room, and one byte more (by which it has one piece more), where a checkpoint is not needed.
func TestStateBehindAtTheEdge(t *testing.T) {
	for _, n := range []int{32, 33, 34, 40} {
		most := ((n-2)/2 - 11) * 480
		none := at("new", n, 1, 1, rows{})
		none.wantCommit(t, changed(most), api.OK)
		none.wantCommit(t, changed(most+1), api.ErrFull)
		none.wantCommit(t, changed(most-1), api.OK)
		none.wantCommit(t, changed(most+480), api.ErrFull)
		c := at("nearly as many rows as fit", n, 2, 5, filled("s", most-10, 1))
		c.wantCommit(t, sets(set("t", "12345")), api.OK)
		c.wantCommit(t, sets(set("t", "123456")), api.ErrFull)
		c.wantCommit(t, sets(set("t", ""), set("u", "")), api.OK)
		c.wantCommit(t, sets(set("t", ""), set("u", "1")), api.ErrFull)
		full := at("as many rows as fit", n, 3, 5, filled("s", most, 1))
		full.wantCommit(t, sets(set("t", "")), api.ErrFull)
		full.wantCommit(t, sets(set("t", ""), gone("sA")), api.OK)
		full.wantCommit(t, sets(set("sA", great(9))), fullUnless(full.p, "sA", great(9)))
		full.wantCommit(t, sets(set("sA", "")), api.OK)
		full.wantCommit(t, full.p.rows.allGone(), api.OK)
	}
}

// fullUnless is what a commit of one set answers by its length alone.
func fullUnless(p plain, key, value string) api.Errno {
	if len(value) > len(p.rows[key]) {
		return api.ErrFull
	}
	return api.OK
}

// P14.5: the same where a checkpoint is needed: by a transaction of one sector where none is left, and by a long one where some are.
func TestStateBehindAtTheEdgeWithACheckpoint(t *testing.T) {
	for _, n := range []int{32, 35} {
		room := (n - 2) / 2
		most := (room - 11) * 480
		state := filled("s", most-20, 1)
		place := plainPieces(most - 20)
		c := at("full", n, 2, 5, state, flips(room-place)...) // the flip has 9 bytes: 11 are left
		if c.p.place != room || len(c.p.rows.bytes()) != most-11 {
			t.Fatalf("place %d, %d bytes", c.p.place, len(c.p.rows.bytes()))
		}
		for value, want := range map[string]api.Errno{"": api.OK, "12345": api.OK, "123456": api.OK, "1234567": api.ErrFull} {
			got := c.wantCommit(t, sets(set("t", value)), want)
			if want == api.OK && !got.turned {
				t.Errorf("it does not need a checkpoint")
			}
		}
		c.wantCommit(t, sets(gone("flip")), api.OK)
		// Two sectors are left, and three are needed.
		c = at("two sectors left", n, 2, 5, rows{"s": ""}, flips(room-3)...)
		behind := len(c.p.rows.bytes())
		for more, want := range map[int]api.Errno{481: api.OK, most - behind: api.OK, most - behind + 1: api.ErrFull} {
			got := c.wantCommit(t, changed(more), want)
			if want == api.OK && !got.turned {
				t.Errorf("it does not need a checkpoint")
			}
		}
	}
}

// P14.5: the state ahead beyond the room, which no store has written: it is in the way of a checkpoint, and of nothing else.
func TestStateAheadAtTheEdge(t *testing.T) {
	state := filled("s", 1920-9, 1)
	one := sets(set("one", "12")) // 9 bytes: just as many as fit, with no flip
	for left := range 8 {
		for _, c := range []seat{
			at("as many rows as fit", 32, 2, 5, state, slices.Repeat([][]api.Set{one}, 11-left)...),
			at("one byte more", 32, 2, 5, state, append(slices.Repeat([][]api.Set{one}, 10-left), sets(set("one", "123")))...),
			at("many bytes more", 32, 2, 5, state, append(slices.Repeat([][]api.Set{one}, 10-left), sets(set("one", "12"+counted(1, 1, 470))))...),
		} {
			if c.p.place != 15-left {
				t.Fatalf("%s: the place is %d", c.what, c.p.place)
			}
			isBig := len(c.p.rows.bytes()) > 1920
			for need, l := range map[int][]api.Set{
				1: sets(gone("one")),
				3: sets(set("sA", great(8)[:len(c.p.rows["sA"])-9]), gone("one"), set("sB", great(8)[:100])),
				5: append(changeAll(c.p.rows), gone("one")),
			} {
				tx := len(setBytes(c.p.rows.change(c.p.rows.after(l))))
				if plainNeed(tx) != need {
					t.Fatalf("%d bytes need %d sectors, want %d", tx, plainNeed(tx), need)
				}
				want := api.OK
				if isBig && need > left {
					want = api.ErrFull
				}
				got := c.wantCommit(t, l, want)
				if want == api.OK && got.turned != (need > left) {
					t.Errorf("%s, %d left, %d needed: turned %v", c.what, left, need, got.turned)
				}
			}
			// What leaves the state beyond the room is refused, whether a checkpoint is needed or not.
			if isBig {
				c.wantCommit(t, sets(set("one", c.p.rows["one"]+"4")), api.ErrFull)
				c.wantCommit(t, sets(set("one", strings.Repeat("x", len(c.p.rows["one"])))), api.ErrFull)
			}
			c.wantCommit(t, c.p.rows.asSets(), api.OK) // nothing to do
		}
	}
}

// changeAll sets all rows but the key "one" to other values of the same length.
func changeAll(r rows) []api.Set {
	var out []api.Set
	for _, key := range r.keys() {
		if key != "one" {
			out = append(out, set(key, counted(99, 1, len(r[key]))))
		}
	}
	return out
}

// P14.5: sets that may not be, of all kinds, alone and among others, in which a change is left or not.
func TestSetsThatMayNotBe(t *testing.T) {
	c := at("few rows", 32, 2, 5, rows{"a": "1"})
	bad := []api.Set{
		set("", "x"), set("", ""), gone(""), {}, set(strings.Repeat("k", 41), "x"), gone(strings.Repeat("k", 41)), set(counted(1, 1, 300), ""), gone(counted(1, 1, 300)),
		set("k", great(1)+"x"), set("a", counted(1, 1, 70000)), {Key: []byte("a"), Value: []byte("1"), Gone: true}, {Key: []byte("no"), Value: []byte{0}, Gone: true}, {Key: []byte("a"), Value: make([]byte, 481), Gone: true},
	}
	for _, s := range bad {
		c.wantCommit(t, sets(s), api.ErrRow)
		c.wantCommit(t, sets(set("b", "2"), s), api.ErrRow)
		c.wantCommit(t, sets(s, set("b", "2")), api.ErrRow)
		c.wantCommit(t, sets(s, set(string(s.Key), "2"), gone("a"), gone(string(s.Key))), api.ErrRow)
		c.wantCommit(t, sets(set("a", "1"), s, gone("no")), api.ErrRow)
	}
	for _, s := range []api.Set{set(strings.Repeat("k", 40), great(1)), gone(strings.Repeat("k", 40)), set("\x00", ""), {Key: []byte("a"), Value: []byte{}, Gone: true}} {
		c.wantCommit(t, sets(s), api.OK)
	}
}

// P14.5: the errors in their order, two and more at once.
func TestErrorsInTheirOrder(t *testing.T) {
	bad := set("", "x")
	big, full := changed(4801), changed(1921)
	for _, c := range []struct {
		seat
		change, turning, full api.Errno // of a change of one sector, of one of three, of one with a state behind that is too great
	}{
		{at("room", 32, 2, 5, rows{}), api.OK, api.OK, api.ErrFull},
		{at("two sectors left", 32, 2, 5, rows{}, flips(13)...), api.OK, api.OK, api.ErrFull},
		{at("full", 32, 2, 5, rows{}, flips(15)...), api.OK, api.OK, api.ErrFull},
		{at("the greatest epoch", 32, maxSeq, 5, rows{}), api.OK, api.OK, api.ErrFull},
		{at("the greatest epoch, two sectors left", 32, maxSeq, 5, rows{}, flips(13)...), api.OK, api.ErrSeqs, api.ErrSeqs},
		{at("the greatest epoch, full", 32, maxSeq, 5, rows{}, flips(15)...), api.ErrSeqs, api.ErrSeqs, api.ErrSeqs},
		{at("the greatest epoch but one, full", 32, maxSeq-1, 5, rows{}, flips(15)...), api.OK, api.OK, api.ErrFull},
		{at("the last seq", 32, 2, maxSeq, rows{}), api.OK, api.OK, api.ErrFull},
		{at("the last seq, full", 32, 2, maxSeq-15, rows{}, flips(15)...), api.OK, api.OK, api.ErrFull},
	} {
		for _, call := range []struct {
			l    []api.Set
			want api.Errno
		}{
			{sets(set("c", "3")), c.change},
			{changed(481), c.turning},
			{full, c.full},
			{nil, api.OK},
			{sets(gone("none")), api.OK},
			{c.p.rows.asSets(), api.OK},
			{sets(bad), api.ErrRow},
			{sets(gone("none"), bad), api.ErrRow},
			{append(big, bad), api.ErrRow},
			{append(full, bad), api.ErrRow},
			{append(changed(481), bad), api.ErrRow},
			{big, api.ErrTxBig},
			{append(big, set("c", "3")), api.ErrTxBig},
			{changed(9600), api.ErrTxBig},
		} {
			c.wantCommit(t, call.l, call.want)
		}
	}
}

// P14.5, P14.6: behind a commit of the seq MaxSeq there is none; a store that has not ended tells on, and takes what changes nothing. It is not opened again.
func TestTheLastSeq(t *testing.T) {
	last := sets(set("last", "1"))
	for _, c := range []seat{
		at("room", 32, 2, maxSeq, rows{}),
		at("full", 32, 2, maxSeq-15, rows{}, flips(15)...),
		at("the greatest epoch", 32, maxSeq, maxSeq, rows{}),
	} {
		behind := c.wantCommit(t, last, api.OK).store
		if behind.seq != maxSeq+1 {
			t.Fatalf("the next seq is %d", behind.seq)
		}
		then := over(t, c.m, last)
		for _, call := range []struct {
			l    []api.Set
			want api.Errno
		}{
			{sets(set("c", "3")), api.ErrSeqs}, {sets(gone("last")), api.ErrSeqs}, {changed(1921), api.ErrSeqs}, {changed(4800), api.ErrSeqs},
			{changed(4801), api.ErrTxBig}, {sets(set("c", "3"), set("", "")), api.ErrRow}, {nil, api.OK}, {last, api.OK}, {sets(gone("none")), api.OK},
		} {
			wantCommit(t, c.what+", behind the last", then, behind, call.l, call.want)
		}
		d, s := then()
		wantNoStore(t, "no seq left", d, api.ErrSeqs)
		wantEnded(t, "behind an Open that was refused", d, s)
	}
}

// P14.3, P14.6: a store that is filled, turned over many checkpoints, emptied and filled again; each commit's operations, and what is told behind each, by the store and by one that is opened anew over what lasts.
func TestFilledAndEmptied(t *testing.T) {
	t.Parallel()
	for _, n := range []int{32, 33, 47} {
		d := formatted(t, n)
		s := open(t, d)
		p := plain{n, 1, 1, 0, rows{}}
		rounds := 0
		commit := func(l []api.Set) api.Errno {
			t.Helper()
			arm(t, d)
			c := p.commit(l)
			want := standOf(d)
			wantFits(t, "in turns", d, s, l, c.err)
			wantErr(t, "Commit"+told(l), s.Commit(l), c.err)
			want.does(c.ops)
			wantStand(t, "in turns", d, want)
			p = c.store
			wantStore(t, "in turns", d, s, p)
			other := made(t, imageOf(d.Durable()))
			wantStore(t, "in turns, opened anew", other, open(t, other), p)
			return c.err
		}
		for round := range 6 {
			i := 0
			for commit(sets(set(fmt.Sprint("k", i), great(round+i)))) == api.OK {
				i++
			}
			for _, key := range p.rows.keys() {
				wantErr(t, "a value of the same length", commit(sets(set(key, great(100+round)))), api.OK)
			}
			for _, key := range p.rows.keys() {
				wantErr(t, "a delete", commit(sets(gone(key))), api.OK)
			}
			if len(p.rows) != 0 {
				t.Errorf("%v is left", p.rows)
			}
			rounds++
		}
		if p.epoch < 8 || rounds != 6 {
			t.Errorf("%d epochs: that tries too little", p.epoch)
		}
	}
}

// P14.5: Fits answers what Commit answers then, and P14.6 what it does: sampled lists of all kinds, at stores of all kinds.
func TestSampledCommits(t *testing.T) {
	t.Parallel()
	met := map[api.Errno]int{}
	for seed := range uint64(60) {
		s := newSampler(seed)
		n := pick(s, 32, 33, 34, 36)
		epoch, seq := pick(s, 1, 2, 3, 1<<40, maxSeq-3, maxSeq-1, maxSeq), pick(s, 1, 5, 1<<40, maxSeq-20)
		m, p := stands(n, epoch, seq, rows{})
		d, st := over(t, m)()
		for range 60 {
			l := s.list(pick(s, 1, 2, 4, 12))
			if s.IntN(12) == 0 {
				l = slices.Insert(l, s.IntN(len(l)+1), pick(s, set("", "x"), set("k", great(1)+"x"), gone("")))
			}
			if s.IntN(12) == 0 {
				l = append(l, changed(pick(s, 1921, 2400, 4800, 4801, 5000))...)
			}
			arm(t, d)
			c := p.commit(l)
			want := standOf(d)
			wantFits(t, "sampled", d, st, l, c.err)
			wantErr(t, "sampled: Commit"+told(l), st.Commit(l), c.err)
			want.does(c.ops)
			wantStand(t, "sampled", d, want)
			p = c.store
			wantStore(t, "sampled", d, st, p)
			met[c.err]++
			if t.Failed() {
				return
			}
		}
	}
	for _, e := range []api.Errno{api.ErrRow, api.ErrTxBig, api.ErrSeqs, api.ErrFull} {
		if met[e] < 20 {
			t.Errorf("met %v: that tries too little", met)
		}
	}
	if met[api.OK] < 1000 {
		t.Errorf("met %v: that tries too little", met)
	}
}

// P14.5, P14.6: the greatest device: as many bytes as fit, and one more.
func TestTheGreatestDevice(t *testing.T) {
	t.Parallel()
	most := (4095 - 11) * 480
	r := rows{}
	for i := 0; most > 0; i++ { // each row has 486 bytes, the last ones what is left
		key := fmt.Sprintf("%06d", i)
		value := min(maxValue, most-10)
		if rest := most - 10 - value; rest > 0 && rest < 10 {
			value -= 10
		}
		r[key] = counted(i, 3, value)
		most -= 10 + value
	}
	m, p := stands(8192, 2, 5, r)
	d, s := over(t, m)()
	wantFits(t, "the greatest device", d, s, sets(set("x", "")), api.ErrFull)
	l := sets(set("x", ""), gone("000007"))
	c := p.commit(l)
	want := standOf(d)
	want.does(c.ops)
	arm(t, d)
	wantErr(t, "Commit", s.Commit(l), api.OK)
	wantStand(t, "the greatest device", d, want)
	wantStore(t, "the greatest device", d, s, c.store)
}
