package table_test

import (
	"slices"
	"testing"

	"culvert/api"
)

// P13.4: every reason for which a set may not be, at the first, a middle and the last place, beside sets that would have done something: nothing is done.
func TestApplyRefused(t *testing.T) {
	good := []api.Set{set("a", "9"), gone("b"), set("new", "n"), set("c", ""), gone("new"), set("new", "m")}
	for _, before := range [][]api.Set{nil, {set("a", "1"), set("b", "2"), set("m", "")}} {
		for _, wrong := range noSets() {
			for place := range len(good) + 1 {
				x, d := made(t, before...)
				l := slices.Insert(slices.Clone(good), place, wrong)
				wantErr(t, "Apply("+told(l)+")", x.Apply(l), api.ErrRow)
				if got := rowsOf(x); !slices.Equal(got, d.rows()) {
					t.Fatalf("Apply(%s) was refused, and there is %q", told(l), got)
				}
			}
			x, d := made(t, before...)
			wantErr(t, "Apply of one", x.Apply([]api.Set{wrong}), api.ErrRow)
			wantErr(t, "Apply of two", x.Apply([]api.Set{wrong, wrong}), api.ErrRow)
			wantTable(t, "behind "+told([]api.Set{wrong}), x, d)
			apply(t, x, good...)
			wantTable(t, "behind a refused Apply and another one", x, d.and(good...))
		}
	}
}

// P13.4: all keys and values at the edges, set and deleted; a Gone one has no bytes of a value, in whichever form.
func TestApplyEdges(t *testing.T) {
	for _, key := range edgeKeys() {
		for _, value := range edgeValues() {
			x, d := made(t, set(key, value))
			wantTable(t, "set", x, d)
			apply(t, x, api.Set{Key: []byte(key), Value: []byte{}, Gone: true})
			wantTable(t, "deleted", x, nil)
		}
	}
}

// P13.4: a key that comes more than once: the last one counts.
func TestApplyOfOneKey(t *testing.T) {
	for _, c := range []struct {
		l    []api.Set
		want []row
	}{
		{[]api.Set{set("a", "1"), set("a", "2")}, []row{{"a", "2"}}},
		{[]api.Set{set("a", "2"), set("a", "1"), set("a", "")}, []row{{"a", ""}}},
		{[]api.Set{set("a", "1"), set("a", "1")}, []row{{"a", "1"}}},
		{[]api.Set{set("a", "1"), gone("a")}, nil},
		{[]api.Set{gone("a"), set("a", "1")}, []row{{"a", "1"}}},
		{[]api.Set{set("a", "1"), gone("a"), set("a", "2")}, []row{{"a", "2"}}},
		{[]api.Set{gone("a"), gone("a")}, nil},
		{[]api.Set{set("a", "1"), set("b", "2"), gone("a"), set("c", "3"), set("b", "4")}, []row{{"b", "4"}, {"c", "3"}}},
	} {
		for _, before := range [][]api.Set{nil, {set("a", "0")}} {
			x, _ := made(t, before...)
			apply(t, x, c.l...)
			if got := rowsOf(x); !slices.Equal(got, c.want) || x.Len() != len(c.want) {
				t.Errorf("Apply(%s) makes %q, %d rows, want %q", told(c.l), got, x.Len(), c.want)
			}
		}
	}
}

// P13.4: deletes of what is there, of what is not, of what is beside, of what went.
func TestApplyDeletes(t *testing.T) {
	x, d := made(t, set("a", "1"), set("ab", ""), set("b", "2"))
	for _, key := range []string{"abc", "aa", "B", "\x00", "ab", "ab", "a", "b", "b"} {
		apply(t, x, gone(key))
		d = d.and(gone(key))
		wantTable(t, "without "+key, x, d)
	}
	if x.Len() != 0 {
		t.Errorf("Len() = %d", x.Len())
	}
}

// P13.4: no sets, by nil or by the empty list: OK, and nothing is done.
func TestApplyOfNone(t *testing.T) {
	for _, before := range [][]api.Set{nil, edgeRows()} {
		x, d := made(t, before...)
		for _, l := range [][]api.Set{nil, {}} {
			wantErr(t, "Apply of none", x.Apply(l), api.OK)
			wantTable(t, "behind Apply of none", x, d)
		}
	}
}

// P13.4, P13.9: all lists of up to three sets of the small ones, in one Apply and one by one, from all small rows on.
func TestApplyOfAllShortLists(t *testing.T) {
	t.Parallel()
	for _, before := range smallRows() {
		lists(small(), 3, func(l []api.Set) {
			x, d := made(t, before...)
			apply(t, x, l...)
			y, _ := made(t, before...)
			for _, s := range l {
				apply(t, y, s)
			}
			want := d.and(l...).rows()
			if one, two := rowsOf(x), rowsOf(y); !slices.Equal(one, want) || !slices.Equal(two, want) {
				t.Fatalf("Apply(%s) behind %s makes %q, one by one %q, want %q", told(l), told(before), one, two, want)
			}
		})
	}
}

// P13.4: a long list, and as many rows as there are places in two bytes.
func TestApplyOfMany(t *testing.T) {
	var l []api.Set
	for i := range 1 << 16 {
		l = append(l, set(string([]byte{byte(i >> 8), byte(i)}), counted(i, i%3)))
	}
	x, _ := made(t, l...)
	if x.Len() != 1<<16 {
		t.Fatalf("Len() = %d", x.Len())
	}
	wrong := append(slices.Clone(l), set("", ""))
	for i := range wrong {
		wrong[i].Value = nil
	}
	wantErr(t, "Apply of many, the last one wrong", x.Apply(wrong), api.ErrRow)
	i := 0
	for key, value := range x.All() {
		if string(key) != string(l[i].Key) || string(value) != counted(i, i%3) {
			t.Fatalf("the row %d is %x, %x", i, key, value)
		}
		i++
	}
	for i := range l {
		l[i] = gone(string(l[i].Key))
	}
	apply(t, x, l[1:]...)
	wantTable(t, "all but one deleted", x, done{set("\x00\x00", "")})
}
