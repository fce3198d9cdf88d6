package table_test

import (
	"slices"
	"testing"

	"culvert/api"
	"culvert/table"
)

// P13.7: no changes at first: Get tells the table's rows, Sets nothing.
func TestOverOfNoChanges(t *testing.T) {
	for _, l := range [][]api.Set{nil, {set("a", "1")}, edgeRows()} {
		x, d := made(t, l...)
		o, c := laid(x, d)
		wantOver(t, "no changes", o, c)
		if got := o.Sets(); len(got) != 0 {
			t.Errorf("Sets() of no changes = %s", told(got))
		}
		wantTable(t, "the table", x, d)
	}
}

// P13.7: each way of a key that was not there, had no bytes, had some: set and deleted, once and again.
func TestOverOfOneKey(t *testing.T) {
	none := []api.Set(nil)
	for _, c := range []struct {
		before, done, want []api.Set
	}{
		{nil, []api.Set{set("k", "1")}, []api.Set{set("k", "1")}},
		{nil, []api.Set{set("k", "")}, []api.Set{set("k", "")}},
		{nil, []api.Set{gone("k")}, none},
		{nil, []api.Set{set("k", "1"), gone("k")}, none},
		{nil, []api.Set{set("k", ""), gone("k")}, none},
		{nil, []api.Set{gone("k"), set("k", "1")}, []api.Set{set("k", "1")}},
		{nil, []api.Set{set("k", "1"), set("k", "2")}, []api.Set{set("k", "2")}},
		{nil, []api.Set{set("k", "1"), gone("k"), set("k", "")}, []api.Set{set("k", "")}},
		{[]api.Set{set("k", "1")}, []api.Set{set("k", "1")}, none},
		{[]api.Set{set("k", "1")}, []api.Set{set("k", "2")}, []api.Set{set("k", "2")}},
		{[]api.Set{set("k", "1")}, []api.Set{set("k", "")}, []api.Set{set("k", "")}},
		{[]api.Set{set("k", "1")}, []api.Set{set("k", "11")}, []api.Set{set("k", "11")}},
		{[]api.Set{set("k", "1")}, []api.Set{gone("k")}, []api.Set{gone("k")}},
		{[]api.Set{set("k", "1")}, []api.Set{gone("k"), gone("k")}, []api.Set{gone("k")}},
		{[]api.Set{set("k", "1")}, []api.Set{gone("k"), set("k", "1")}, none},
		{[]api.Set{set("k", "1")}, []api.Set{gone("k"), set("k", "2")}, []api.Set{set("k", "2")}},
		{[]api.Set{set("k", "1")}, []api.Set{set("k", "2"), set("k", "1")}, none},
		{[]api.Set{set("k", "1")}, []api.Set{set("k", "2"), gone("k")}, []api.Set{gone("k")}},
		{[]api.Set{set("k", "")}, []api.Set{set("k", "")}, none},
		{[]api.Set{set("k", "")}, []api.Set{gone("k")}, []api.Set{gone("k")}},
		{[]api.Set{set("k", "")}, []api.Set{gone("k"), set("k", "")}, none},
		{[]api.Set{set("k", "")}, []api.Set{set("k", "\x00")}, []api.Set{set("k", "\x00")}},
	} {
		for _, beside := range [][]api.Set{nil, {set("a", "a"), set("k\x00", ""), set("z", "z")}} {
			x, d := made(t, append(slices.Clone(c.before), beside...)...)
			o, now := laid(x, d)
			now = do(t, o, now, c.done...)
			wantOver(t, told(c.done), o, now)
			wantSets(t, told(c.before)+", then "+told(c.done), o, c.want...)
			wantTable(t, "the table", x, d)
		}
	}
}

// P13.7: a value is the same by its bytes, whether it is handed in as nil or as the empty list.
func TestOverOfNoBytes(t *testing.T) {
	for _, one := range [][]byte{nil, {}} {
		for _, two := range [][]byte{nil, {}} {
			x, _ := made(t, api.Set{Key: []byte("k"), Value: one})
			o := x.Over()
			wantErr(t, "Set", o.Set([]byte("k"), two), api.OK)
			wantSets(t, "no bytes for no bytes", o)
			wantValue(t, "no bytes", o, "k", "", true)
			wantErr(t, "Set", o.Set([]byte("l"), two), api.OK)
			wantSets(t, "a new one without bytes", o, set("l", ""))
		}
	}
}

// P13.7: all keys and values at the edges.
func TestOverEdges(t *testing.T) {
	for _, key := range edgeKeys() {
		for _, value := range edgeValues() {
			for _, before := range [][]api.Set{nil, {set(key, "v")}, {set(key, value)}} {
				x, d := made(t, before...)
				o, c := laid(x, d)
				c = do(t, o, c, set(key, value))
				wantOver(t, "set", o, c)
				c = do(t, o, c, gone(key))
				wantOver(t, "deleted", o, c)
				c = do(t, o, c, gone(key), set(key, value))
				wantOver(t, "set anew", o, c)
			}
		}
	}
}

// P13.7: Set of what is no key or no value: ErrRow, and nothing has changed, not even where the key has changed already.
func TestOverSetRefused(t *testing.T) {
	x, d := made(t, set("a", "1"), set("b", "2"), set("m", "3"))
	o, c := laid(x, d)
	refuse := func(key, value string) {
		t.Helper()
		wantErr(t, "Set("+brief(key)+", "+brief(value)+")", o.Set([]byte(key), []byte(value)), api.ErrRow)
		if got := o.Sets(); !same(got, c.sets()) {
			t.Errorf("behind Set(%s, %s) Sets() = %s, want %s", brief(key), brief(value), told(got), told(c.sets()))
		}
	}
	for round := range 3 {
		for _, key := range noKeys() {
			for _, value := range append(edgeValues(), noValues()[0]) {
				refuse(key, value)
			}
		}
		for _, value := range noValues() {
			for _, key := range append(edgeKeys(), "m") {
				refuse(key, value)
			}
		}
		wantOver(t, "refused", o, c)
		c = do(t, o, c, [][]api.Set{{set("m", "4"), gone("a")}, {set("a", "5"), gone("m")}, nil}[round]...)
		wantOver(t, "refused, then done", o, c)
	}
	wantErr(t, "Set(nil, nil)", o.Set(nil, nil), api.ErrRow)
	wantOver(t, "at last", o, c)
	wantTable(t, "the table", x, d)
}

// P13.7: Delete of whatever there is not, and of what is no key: false, and nothing has changed.
func TestOverDelete(t *testing.T) {
	x, d := made(t, edgeRows()...)
	o, c := laid(x, d)
	for _, key := range append(noKeys(), "none", "a\x00\x00", "\xff\xff\xff") {
		wantDelete(t, "none", o, key, false)
	}
	if o.Delete(nil) {
		t.Errorf("Delete(nil) = true")
	}
	wantOver(t, "nothing is deleted", o, c)
	for _, key := range edgeKeys() {
		wantDelete(t, "once", o, key, true)
		wantDelete(t, "twice", o, key, false)
		c = c.and(gone(key))
		wantOver(t, "deleted", o, c)
	}
	for _, key := range noKeys() {
		wantDelete(t, "of none", table.New().Over(), key, false)
	}
}

// P13.7: keys rise in Sets, whatever the order in which they were set and deleted.
func TestSetsRise(t *testing.T) {
	before := []api.Set{set("a", "1"), set("b", "2"), set("c", "3")}
	list := []api.Set{gone("a"), set("a\x00", "n"), set("b", "9"), gone("c"), set("\xff", ""), set("\x00", "0")}
	x, _ := made(t, before...)
	want := []api.Set{list[5], list[0], list[1], list[2], list[3], list[4]}
	permuted(list, func(order []api.Set) {
		o, c := laid(x, before)
		do(t, o, c, order...)
		if got := o.Sets(); !same(got, want) {
			t.Fatalf("Sets() = %s behind %s", told(got), told(order))
		}
	})
}

// P13.7: what is done to the table behind Over does not show in the changes, and they never touch the table: not where both do the same, nor where the table comes to what the changes tell, nor where it loses its rows.
func TestOverAndItsTable(t *testing.T) {
	first := []api.Set{set("a", "1"), set("b", "2"), set("c", "")}
	changed := []api.Set{gone("a"), set("b", "9"), set("d", "4")}
	for _, behind := range [][]api.Set{
		nil, changed, {set("a", "7"), set("b", "7"), set("c", "7"), set("d", "7")}, {gone("a"), gone("b"), gone("c")},
		{gone("a"), set("a", "1")}, {set("e", "5")}, {set("b", "9")}, {gone("a")}, {set("d", "4")}, {set("c", "x")},
	} {
		x, d := made(t, first...)
		o, c := laid(x, d)
		late, lateChanges := laid(x, d)
		c = do(t, o, c, changed...)
		apply(t, x, behind...)
		d = d.and(behind...)
		wantOver(t, "behind "+told(behind), o, c)
		wantTable(t, "behind "+told(behind), x, d)
		c = do(t, o, c, set("a", "1"), gone("b"), set("e", "5"), gone("d"))
		wantOver(t, "more changes", o, c)
		wantTable(t, "more changes", x, d)
		wantOver(t, "none till now", late, lateChanges)
		wantOver(t, "done at last", late, do(t, late, lateChanges, changed...))
		wantTable(t, "done at last", x, d)
	}
}

// P13.7, P13.8: changes over a table that is changed between them: each over the rows of its own moment, and none sees another one.
func TestManyOvers(t *testing.T) {
	s := newSampler(4)
	x, d := made(t, set("a", "1"), set("b", "2"))
	var overs []*table.Over
	var all []changes
	for range 60 {
		o, c := laid(x, d)
		overs, all = append(overs, o), append(all, c)
		for range 4 {
			i := s.IntN(len(overs))
			all[i] = do(t, overs[i], all[i], s.set())
		}
		one := s.set()
		apply(t, x, one)
		d = d.and(one)
	}
	wantTable(t, "the table", x, d)
	for i := range overs {
		wantOver(t, "one of many", overs[i], all[i])
	}
}

// P13.7: asking changes nothing, however often.
func TestAskingChangesChangesNothing(t *testing.T) {
	x, d := made(t, set("a", "1"), set("b", ""))
	o, c := laid(x, d)
	c = do(t, o, c, gone("a"), set("c", "3"))
	for range 3 {
		wantOver(t, "asked", o, c)
		wantTable(t, "asked", x, d)
	}
}
