package store_test

import (
	"bytes"
	"fmt"
	"testing"

	"culvert/api"
)

// P14.4, P14.6: what stands in the sector of a commit is the change, not the list: written out by hand.
func TestChange(t *testing.T) {
	state := rows{"a": "1", "b": "", "c": "3"}
	for _, c := range []struct {
		what      string
		l, change []api.Set
	}{
		{"no sets", nil, nil},
		{"a key that is new", sets(set("d", "4")), sets(set("d", "4"))},
		{"a key that is new, without a value", sets(set("d", "")), sets(set("d", ""))},
		{"another value", sets(set("a", "2")), sets(set("a", "2"))},
		{"no value any more", sets(set("a", "")), sets(set("a", ""))},
		{"a value where there was none", sets(set("b", "2")), sets(set("b", "2"))},
		{"what it has", sets(set("a", "1")), nil},
		{"what it has, without a value", sets(set("b", "")), nil},
		{"all that is there", sets(set("c", "3"), set("b", ""), set("a", "1")), nil},
		{"a key twice", sets(set("a", "2"), set("a", "4")), sets(set("a", "4"))},
		{"a key twice, the last is what it has", sets(set("a", "2"), set("a", "1")), nil},
		{"a key thrice", sets(set("d", "1"), set("d", "2"), set("d", "3")), sets(set("d", "3"))},
		{"gone", sets(gone("a")), sets(gone("a"))},
		{"gone twice", sets(gone("b"), gone("b")), sets(gone("b"))},
		{"gone, what is not there", sets(gone("d"), gone("e"), gone("aa")), nil},
		{"gone and set again", sets(gone("a"), set("a", "1")), nil},
		{"gone and set to something else", sets(gone("a"), set("a", "2")), sets(set("a", "2"))},
		{"gone and set again, without a value", sets(gone("b"), set("b", "")), nil},
		{"set and gone again, a key that is new", sets(set("d", "4"), gone("d")), nil},
		{"set and gone again", sets(set("a", "4"), gone("a")), sets(gone("a"))},
		{"set to what it has and gone", sets(set("a", "1"), gone("a")), sets(gone("a"))},
		{"gone, set, gone", sets(gone("a"), set("a", "1"), gone("a")), sets(gone("a"))},
		{"set, gone, set", sets(set("d", "1"), gone("d"), set("d", "2")), sets(set("d", "2"))},
		{"all gone", sets(gone("c"), gone("a"), gone("b")), sets(gone("a"), gone("b"), gone("c"))},
		{"keys that fall", sets(set("z", "1"), gone("c"), set("ab", "2"), set("aa", "3"), gone("a")), sets(gone("a"), set("aa", "3"), set("ab", "2"), gone("c"), set("z", "1"))},
		{"some change, some do not", sets(set("a", "1"), set("b", "2"), gone("x"), set("c", "3"), set("d", "")), sets(set("b", "2"), set("d", ""))},
	} {
		for _, asTxs := range []bool{false, true} { // the state as a checkpoint, and as a transaction
			m, p := stands(32, 2, 5, state)
			if asTxs {
				m, p = stands(32, 3, 5, rows{}, inOrder(state))
			}
			wantCommit(t, c.what, over(t, m), p, c.l, api.OK)
			d, s := over(t, m)()
			sector := first(32, p.epoch) + p.place
			wantErr(t, c.what, s.Commit(c.l), api.OK)
			want := make([]byte, size)
			if len(c.change) > 0 {
				want = sec("CVO1", p.epoch, p.seq, p.place, setBytes(c.change))
			}
			if got := imageOf(d.Durable())[sector]; !bytes.Equal(got, want) {
				t.Errorf("%s: the sector %d is %s, want %s", c.what, sector, head(got), head(want))
			}
		}
	}
}

// smallTables are all tables of two keys, each without a value, with this one or that one.
func smallTables() []rows {
	var out []rows
	for i := range 9 {
		r := rows{}
		for k, state := range []int{i % 3, i / 3} {
			if state > 0 {
				r[string(rune('a'+k))] = fmt.Sprint(state)
			}
		}
		out = append(out, r)
	}
	return out
}

// smallLists are all lists of up to three of the sets of these keys and values.
func smallLists() [][]api.Set {
	all := sets(gone("a"), set("a", "1"), set("a", "2"), gone("b"), set("b", "1"), set("b", "2"))
	out := [][]api.Set{nil}
	for from := 0; len(out[from]) < 3; from++ {
		for _, s := range all {
			out = append(out, append(append([]api.Set{}, out[from]...), s))
		}
	}
	return out
}

// P14.4, P14.6: all lists of up to three sets over all tables of two keys; asked again, the commit does nothing.
func TestChangeOfSmallLists(t *testing.T) {
	t.Parallel()
	changes, nothings := 0, 0
	for _, table := range smallTables() {
		m, p := stands(32, 2, 5, table)
		for _, l := range smallLists() {
			d, s := over(t, m)()
			arm(t, d)
			c := p.commit(l)
			want := standOf(d)
			want.does(c.ops)
			for range 2 {
				wantFits(t, "a small list", d, s, l, api.OK)
				wantErr(t, "Commit"+told(l), s.Commit(l), api.OK)
				wantStand(t, fmt.Sprintf("%v, %s", table, told(l)), d, want)
				wantStore(t, fmt.Sprintf("%v, %s", table, told(l)), d, s, c.store)
			}
			if c.nothing {
				nothings++
			} else {
				changes++
			}
		}
	}
	if changes+nothings != 9*259 || changes < 1000 || nothings < 200 {
		t.Errorf("%d lists change something, %d nothing: that tries something else", changes, nothings)
	}
}

// P14.6: a commit that changes nothing does no operation and uses no seq, again and again, also where there is no room and where the power is off.
func TestNothingToDo(t *testing.T) {
	full := filled("s", 1920, 1)
	for what, p := range map[string]rows{"no rows": {}, "few rows": {"a": "1"}, "as many as fit": full} {
		m, p := stands(32, 4, 7, p)
		lists := [][]api.Set{nil, {}, sets(gone("no")), p.rows.asSets(), inOrder(p.rows), append(p.rows.allGone(), p.rows.asSets()...)}
		for _, l := range lists {
			wantCommit(t, what, over(t, m), p, l, api.OK)
		}
		d, s := over(t, m)()
		arm(t, d, fault(1, power))
		wantErr(t, "Flush", d.Flush(), api.ErrPower)
		was := standOf(d)
		for _, l := range lists {
			wantErr(t, "Fits without power", s.Fits(l), api.OK)
			wantErr(t, "Commit without power", s.Commit(l), api.OK)
		}
		wantStand(t, what, d, was)
		wantStore(t, what, d, s, p)
	}
}
