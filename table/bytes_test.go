package table_test

import (
	"bytes"
	"slices"
	"testing"

	"culvert/api"
	"culvert/table"
)

// back is the table that a table's bytes make.
func back(t *testing.T, x *table.Table) *table.Table {
	t.Helper()
	y, e := table.FromBytes(x.Bytes())
	if y == nil || e != api.OK {
		t.Fatalf("FromBytes(%s) = %v, %d", briefBytes(x.Bytes()), y != nil, e)
	}
	return y
}

// P13.6: Bytes is PutSets of a set a row, keys rising, none Gone: what was deleted leaves nothing.
func TestBytesArePutSets(t *testing.T) {
	x, d := made(t, edgeRows()...)
	for _, s := range append(edgeRows(), set("more", "m"), gone("more")) {
		var l []api.Set
		for _, r := range d.rows() {
			l = append(l, set(r.key, r.value))
		}
		want, e := table.PutSets(l)
		wantErr(t, "PutSets of the rows", e, api.OK)
		if b := x.Bytes(); !bytes.Equal(b, want) {
			t.Fatalf("Bytes() = %s, want %s", briefBytes(b), briefBytes(want))
		}
		apply(t, x, gone(string(s.Key)))
		d = d.and(gone(string(s.Key)))
	}
	if b := x.Bytes(); len(b) != 0 {
		t.Errorf("Bytes() of a table without rows = %x", b)
	}
}

// P13.6, P13.9: the same rows by other ways: the same bytes.
func TestBytesHangOnTheRows(t *testing.T) {
	want, _ := plainPut([]api.Set{set("a", "1"), set("ab", ""), set("b", "2")})
	for _, ways := range [][][]api.Set{
		{{set("a", "1"), set("ab", ""), set("b", "2")}},
		{{set("b", "2")}, {set("ab", "")}, {set("a", "1")}},
		{{set("b", "1"), set("a", "2"), set("c", "3")}, {set("ab", "x"), gone("c")}, {set("b", "2"), set("a", "1"), set("ab", "")}},
		{{set("a", "1"), set("b", "2"), gone("a"), gone("b")}, {set("ab", "")}, {set("b", "2"), set("a", "1")}, {gone("z")}},
	} {
		x, _ := made(t)
		for _, l := range ways {
			apply(t, x, l...)
		}
		if b := x.Bytes(); !bytes.Equal(b, want) {
			t.Errorf("Bytes() = %x, want %x", b, want)
		}
	}
}

// P13.6: FromBytes makes a table that tells the same, and can be changed as any other.
func TestFromBytes(t *testing.T) {
	for size := range len(edgeRows()) + 1 {
		x, d := made(t, edgeRows()[:size]...)
		y := back(t, x)
		wantTable(t, "there and back", y, d)
		apply(t, y, set("new", "n"), gone("a"), set("b", "other"))
		wantTable(t, "changed", y, d.and(set("new", "n"), gone("a"), set("b", "other")))
		wantTable(t, "the first one", x, d)
		o, c := laid(back(t, x), d)
		wantOver(t, "changes over it", o, do(t, o, c, set("new", "n"), gone("a")))
	}
}

// P13.6: bytes with a set that is Gone are no table's, at the first, a middle and the last place; those of Sets too.
func TestFromBytesOfGone(t *testing.T) {
	for at := range 4 {
		for _, isGone := range []bool{false, true} {
			l := []api.Set{set("a", "1"), set("b", ""), set("c", "3"), set("d", "")}
			if isGone {
				l[at] = gone(string(l[at].Key))
			}
			b, e := table.PutSets(l)
			wantErr(t, "PutSets", e, api.OK)
			x, e := table.FromBytes(b)
			if (x == nil) != isGone || (e == api.ErrRow) != isGone {
				t.Errorf("FromBytes(%s) = %v, %d", told(l), x != nil, e)
			}
		}
	}
	x, _ := made(t, set("a", "1"))
	o := x.Over()
	o.Delete([]byte("a"))
	b, _ := table.PutSets(o.Sets())
	if y, e := table.FromBytes(b); y != nil || e != api.ErrRow {
		t.Errorf("FromBytes of a Gone one alone = %v, %d", y != nil, e)
	}
}

// P13.6: a table of many rows goes there and back.
func TestFromBytesOfMany(t *testing.T) {
	var l []api.Set
	for i := range 3000 {
		l = append(l, set(counted(i*31, 1+i%40)+string([]byte{byte(i >> 8), byte(i)})[:min(2, 40-(1+i%40))], counted(i, i%481)))
	}
	x, d := made(t, l...)
	y := back(t, x)
	if !slices.Equal(rowsOf(y), d.rows()) || !bytes.Equal(y.Bytes(), x.Bytes()) || x.Len() < 1000 {
		t.Errorf("%d rows, there and back, are others", x.Len())
	}
}

// P13.9: two unlike tables have unlike Bytes: all small ones with each other, and ones whose keys and values have the same bytes in all.
func TestUnlikeBytes(t *testing.T) {
	all := smallRows()
	for n := range 6 {
		all = append(all, done{set("aaaaaa"[:n+1], "aaaaaa"[n+1:])}, done{set("aaaaaa"[:n+1], "aaaaa")}, done{set("aaaaaa"[:n+1], "aaaaaa"[n+1:]), set("b", "")})
	}
	all = append(all, done{set("a", "\x01\x01\x00\x00b")}, done{set("a", "\x00"), set("b", "")}, done{set("a", "1"), set("b", "2")}, done{set("a", "2"), set("b", "1")})
	texts := map[string][]row{}
	for _, d := range all {
		x, _ := made(t, d...)
		rows := d.rows()
		if other, ok := texts[string(x.Bytes())]; ok && !slices.Equal(other, rows) {
			t.Errorf("%q and %q have the same bytes", rows, other)
		}
		texts[string(x.Bytes())] = rows
	}
	if len(texts) < 40 {
		t.Errorf("%d unlike tables: that tries too little", len(texts))
	}
}
