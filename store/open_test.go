package store_test

import (
	"fmt"
	"reflect"
	"runtime"
	"slices"
	"strings"
	"testing"

	"culvert/api"
	"culvert/disk"
	"culvert/store"
)

// P14.2: stores in both regions of some devices: a checkpoint alone, transactions alone, both, one behind the other; the rows are what all of them make.
func TestOpen(t *testing.T) {
	few := rows{"a": "1", "ab": "", "b": "2"}
	for _, c := range []struct {
		n, epoch, seq int
		state         rows
		txs           [][]api.Set
		want          rows
	}{
		{32, 1, 1, rows{}, nil, rows{}},
		{33, 2, 7, few, nil, few},
		{32, 3, 9, rows{}, [][]api.Set{sets(set("a", "1"))}, rows{"a": "1"}},
		{32, 4, 9, few, [][]api.Set{sets(gone("a")), sets(set("a", "3"), set("c", "4")), sets(gone("b"), set("c", ""))}, rows{"a": "3", "ab": "", "c": ""}},
		{32, 5, 9, few, [][]api.Set{sets(set("a", "3")), sets(gone("a"))}, rows{"ab": "", "b": "2"}},
		{32, 6, 9, few, [][]api.Set{sets(gone("a"), gone("ab"), gone("b"))}, rows{}},
		{32, 7, 9, few, [][]api.Set{sets(gone("x")), sets(set("b", "2"))}, few}, // of no store: they change nothing
		{64, 8, 1 << 40, filled("s", 9600, 1), [][]api.Set{sets(set("t", great(1)), set("u", great(2)))}, filled("s", 9600, 1).after(sets(set("t", great(1)), set("u", great(2))))},
		{64, 9, 3, rows{"s": "1"}, [][]api.Set{inOrder(filled("t", 4800, 5))}, rows{"s": "1"}.after(filled("t", 4800, 5).asSets())},
		{32, maxSeq, maxSeq - 1, few, [][]api.Set{sets(set("c", "3"))}, few.after(sets(set("c", "3")))},
		{32, 1 << 61, maxSeq, few, nil, few},
	} {
		m, p := stands(c.n, c.epoch, c.seq, c.state, c.txs...)
		if !reflect.DeepEqual(p.rows, c.want) {
			t.Errorf("the plain rows are %v, want %v", p.rows, c.want)
		}
		wantOpens(t, fmt.Sprintf("%d sectors, epoch %d", c.n, c.epoch), m, p)
	}
}

// inOrder are rows as sets, keys rising.
func inOrder(r rows) []api.Set {
	l := r.asSets()
	slices.Reverse(l)
	return l
}

// P14.2: a region that is full to its last sector.
func TestOpenOfAFullRegion(t *testing.T) {
	var txs [][]api.Set
	for i := range 13 {
		txs = append(txs, sets(set("a", fmt.Sprint(i)), set(fmt.Sprint("k", i), "")))
	}
	m, p := stands(32, 1, 1, filled("s", 960, 1), txs...)
	if p.place != 15 || p.reads() != 17 {
		t.Fatalf("the region is not full: %d", p.place)
	}
	wantOpens(t, "a full region", m, p)
}

// P14.2: wal.Open's error: devices that were not formatted, and others without a superblock that is taken.
func TestOpenWithoutAStore(t *testing.T) {
	wantNotOpened(t, "zeros", zeros(32), 2, api.ErrNoStore)
	m := zeros(32)
	m[1] = superFor(33, 1, 1, nil)
	wantNotOpened(t, "the superblock of another device", m, 2, api.ErrNoStore)
	m = logged(32, 2, 1, filled("s", 960, 1).bytes())
	m[3][100] ^= 1
	wantNotOpened(t, "a checkpoint that is spoilt", m, 4, api.ErrNoStore)
	d := disk.New(32)
	arm(t, d, fault(1, power))
	wantErr(t, "Flush", d.Flush(), api.ErrPower)
	wantNoStore(t, "without power", d, api.ErrPower)
	if d.Claimed() != 1 {
		t.Errorf("an Open without power has not taken a claim")
	}
}

// nones are strings that are no sets'; all are no table's either.
func nones() map[string]string {
	one := string(setBytes(sets(set("k", "v"))))
	return map[string]string{
		"any text":               "none",
		"a zero":                 "\x00",
		"a kind that is none":    "\x02\x01\x00\x01kv",
		"no key":                 "\x01\x00\x00\x01v",
		"a key of 41 bytes":      string(setBytes(sets(set(strings.Repeat("k", 41), "v")))),
		"a value of 481 bytes":   string(setBytes(sets(set("k", great(1)+"x")))),
		"gone with a value":      "\x00\x01\x00\x01kv",
		"cut off":                one[:5],
		"cut off ahead of a key": one[:4],
		"a byte too many":        one + "\x01",
		"keys that fall":         string(setBytes(sets(set("b", "1"), set("a", "1")))),
		"a key twice":            string(setBytes(sets(set("a", "1"), set("a", "1")))),
		"gone and set":           string(setBytes(sets(gone("a"), set("a", "1")))),
		"the second is none":     one + "\x02\x01\x00\x01zv",
		"600 bytes of zeros":     strings.Repeat("\x00", 600),
		"the first of many":      "\x01\x00\x00\x00" + string(filled("s", 900, 1).bytes()),
		"the last of many":       string(filled("s", 900, 1).bytes()) + "\x01",
	}
}

// P14.2: a checkpoint's string that is no table's; what may be a transaction, but has a Gone set, is none either.
func TestStringThatIsNoTables(t *testing.T) {
	texts := nones()
	texts["gone"] = string(setBytes(sets(gone("a"))))
	texts["gone behind a row"] = string(setBytes(sets(set("a", "1"), gone("b"))))
	good := setBytes(sets(set("a", "1")))
	for what, text := range texts {
		k := plainPieces(len(text))
		wantNotOpened(t, what+" as a checkpoint", logged(32, 2, 5, []byte(text)), 2+k+1, api.ErrRow)
		wantNotOpened(t, what+" as a checkpoint, a transaction behind", logged(32, 3, 5, []byte(text), good), 2+k+2, api.ErrRow)
	}
}

// P14.2: a transaction that is none, alone, first, in the middle and last, behind a checkpoint too.
func TestTransactionThatIsNone(t *testing.T) {
	good := setBytes(sets(set("a", "1"), gone("b")))
	state := rows{"a": "0", "b": "0"}.bytes()
	for what, text := range nones() {
		need := plainNeed(len(text))
		for i := range 4 {
			txs := [][]byte{good, good, good}
			txs = slices.Insert(txs, i, []byte(text))
			wantNotOpened(t, fmt.Sprintf("%s as the transaction %d", what, i), logged(32, 2, 5, nil, txs...), 2+need+3+1, api.ErrRow)
			wantNotOpened(t, fmt.Sprintf("%s as the transaction %d behind a state", what, i), logged(32, 3, 5, state, txs...), 2+1+need+3+1, api.ErrRow)
		}
		wantNotOpened(t, what+" as the only transaction", logged(32, 3, 5, state, []byte(text)), 2+1+need+1, api.ErrRow)
	}
}

// P14.2: two of these at once; all of it is read, and nothing flushed.
func TestNoneTwice(t *testing.T) {
	none := []byte("none")
	good := setBytes(sets(set("a", "1")))
	wantNotOpened(t, "a string and a transaction", logged(32, 2, 5, none, none), 2+1+1+1, api.ErrRow)
	wantNotOpened(t, "a string and the last transaction", logged(32, 2, 5, none, good, none), 2+1+2+1, api.ErrRow)
	wantNotOpened(t, "two transactions", logged(32, 2, 5, nil, none, good, none), 2+3+1, api.ErrRow)
}

// P14.2: a log whose next seq is above MaxSeq; ErrRow is told ahead of it; with the next seq MaxSeq a store is opened.
func TestOpenWithoutASeq(t *testing.T) {
	good, none := setBytes(sets(set("a", "1"))), []byte("none")
	state := rows{"s": "t"}.bytes()
	gone := setBytes(sets(gone("a")))
	wantNotOpened(t, "no seq left", logged(32, 2, maxSeq, nil, good), 2+1, api.ErrSeqs)
	wantNotOpened(t, "no seq left", logged(32, 3, maxSeq-1, state, good, gone), 2+1+2, api.ErrSeqs)
	wantNotOpened(t, "no seq left, the greatest epoch", logged(32, maxSeq, maxSeq, state, good), 2+1+1, api.ErrSeqs)
	wantNotOpened(t, "no seq left, and a transaction that is none", logged(32, 2, maxSeq, state, none), 2+1+1, api.ErrRow)
	wantNotOpened(t, "no seq left, and a transaction ahead that is none", logged(32, 2, maxSeq-1, state, none, good), 2+1+2, api.ErrRow)
	wantNotOpened(t, "no seq left, and a string that is none", logged(32, 2, maxSeq, none, good), 2+1+1, api.ErrRow)
	wantNotOpened(t, "no seq left, and a string that is no table's", logged(32, 2, maxSeq, gone, good), 2+1+1, api.ErrRow)
	m, p := stands(32, 2, maxSeq-1, rows{"s": "t"}, sets(set("a", "1")))
	wantOpens(t, "one seq left", m, p)
}

// P14.2: what is done by an Open that answers an error leaves the device as good as it was: the next one finds all.
func TestOpenBehindARefusedOpen(t *testing.T) {
	m, p := stands(32, 2, 5, rows{"a": "1"}, sets(set("b", "2")), sets(gone("a")))
	for k := 1; k <= p.reads()+1; k++ {
		d := made(t, m)
		arm(t, d, fault(k, io))
		wantNoStore(t, "refused", d, api.ErrIO)
		arm(t, d)
		wantStore(t, fmt.Sprintf("an Open behind one that was refused at %d", k), d, open(t, d), p)
		if d.Claimed() != 2 {
			t.Errorf("two Opens have taken %d claims", d.Claimed())
		}
	}
}

// P14.2: what pends is found, and lasts from the Open on: the flush is behind the reads.
func TestOpenMakesLast(t *testing.T) {
	m, p := stands(32, 2, 5, rows{"a": "1"}, sets(set("b", "2")))
	l := sets(set("c", "3"), gone("a"))
	for _, lost := range []bool{true, false} {
		d := made(t, m)
		c := p.commit(l)
		wantErr(t, "Write", d.Write(c.ops[0].sector, c.ops[0].data), api.OK)
		if !lost {
			wantStore(t, "what pends", d, open(t, d), c.store)
		}
		d.Crash(nil)
		want := c.store
		if lost {
			want = p
		}
		wantStore(t, "behind a crash", d, open(t, d), want)
	}
}

// Ways: what is given up inside Open is told as an error; every other panic goes on. (A device that is none is out of question: it is asked here for its panic alone.)
func TestOtherPanicsGoOn(t *testing.T) {
	defer func() {
		if _, ok := recover().(runtime.Error); !ok {
			t.Errorf("the panic of a device that is none does not come through")
		}
	}()
	s, e := store.Open(nil)
	t.Errorf("Open(nil) = %v, %d", s, e)
}
