package store_test

import (
	"encoding/hex"
	"testing"

	"culvert/api"
	"culvert/disk"
	"culvert/store"
)

// The chapter's examples, row by row: P14.1 to P14.7.
func TestExamples(t *testing.T) {
	d := disk.New(32)
	wantErr(t, "Format(d)", store.Format(d), api.OK)
	s := open(t, d)
	want := plain{32, 1, 1, 0, rows{}}
	wantStore(t, "s := Open(d)", d, s, want)

	arm(t, d)
	wantErr(t, "s.Commit(b 2, a 0, a 1)", s.Commit(sets(set("b", "2"), set("a", "0"), set("a", "1"))), api.OK)
	wantDone(t, "s.Commit(b 2, a 0, a 1)", d, 2)
	want = plain{32, 1, 2, 1, rows{"a": "1", "b": "2"}}
	wantStore(t, "behind a and b", d, s, want)
	b := imageOf(d.Durable())[17]
	if got := hex.EncodeToString(b[24:41]); got != "000c0000"+"010100016131"+"010100016232"+"00" {
		t.Errorf("the body of the sector 17, its length ahead of it: %s", got)
	}

	arm(t, d)
	wantErr(t, "s.Commit(a 1, z gone)", s.Commit(sets(set("a", "1"), gone("z"))), api.OK)
	wantErr(t, "s.Commit(no sets)", s.Commit(nil), api.OK)
	wantErr(t, "s.Commit(no key)", s.Commit(sets(set("", "x"))), api.ErrRow)
	three := func(x int) []api.Set {
		return sets(set("p", great(x)), set("q", great(x)), set("r", great(x)))
	}
	four := append(three(1), set("s", great(1)))
	if n := len(want.rows.after(four).bytes()); n != 1952 {
		t.Errorf("the state would have %d bytes", n)
	}
	wantErr(t, "s.Fits(p, q, r, s)", s.Fits(four), api.ErrFull)
	wantErr(t, "s.Fits(p, q, r)", s.Fits(three(1)), api.OK)
	wantDone(t, "no operation", d, 0)
	wantStore(t, "no operation", d, s, want)

	for i, c := range [][4]int{{7, 1, 3, 6}, {7, 1, 4, 11}, {14, 2, 5, 9}, {7, 2, 6, 14}} {
		arm(t, d)
		wantErr(t, "s.Commit(p, q, r)", s.Commit(three(1+i)), api.OK)
		wantDone(t, "s.Commit(p, q, r)", d, c[0])
		want = plain{32, c[1], c[2], c[3], want.rows.after(three(1 + i))}
		wantStore(t, "behind p, q, r", d, s, want)
	}

	arm(t, d, fault(2, io))
	wantErr(t, "s.Commit(c 3)", s.Commit(sets(set("c", "3"))), api.ErrIO)
	wantEnded(t, "behind the refusal", d, s)
	want = plain{32, 2, 7, 15, want.rows.after(sets(set("c", "3")))}
	wantStore(t, "t := Open(d)", d, open(t, d), want)
}

// The limits are those of the document.
func TestLimits(t *testing.T) {
	if api.SectorSize != size || api.BodySize != bodySize || api.MaxTx != maxTx || api.MaxSeq != maxSeq || api.FaultPower != power || api.FaultIO != io {
		t.Errorf("the limits are others")
	}
	if api.MaxRowKey != maxKey || api.MaxRowValue != maxValue {
		t.Errorf("the limits of a row are others")
	}
}
