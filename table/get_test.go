package table_test

import (
	"slices"
	"strings"
	"testing"

	"culvert/api"
	"culvert/table"
)

// P13.1: a new table has no rows, and nothing that was done to another one.
func TestNew(t *testing.T) {
	full := table.New()
	apply(t, full, set("a", "1"), set("b", "2"))
	x := table.New()
	wantTable(t, "a new table", x, nil)
	if b := x.Bytes(); len(b) != 0 {
		t.Errorf("Bytes() of a new table = %x", b)
	}
	wantOver(t, "changes over a new table", x.Over(), changes{})
	wantTable(t, "a table that was made ahead of another one", full, done{set("a", "1"), set("b", "2")})
}

// edgeRows are a set for each edge key, with edge values by turns.
func edgeRows() []api.Set {
	var out []api.Set
	for i, key := range edgeKeys() {
		out = append(out, set(key, edgeValues()[i%len(edgeValues())]))
	}
	return out
}

// P13.2: Get of keys that are there and are not, of beginnings of others, of what stands one byte beside; Len behind each row that comes and goes.
func TestGetAndLen(t *testing.T) {
	x, d := made(t)
	for n, s := range edgeRows() {
		wantTable(t, "ahead of "+told([]api.Set{s}), x, d)
		apply(t, x, s)
		d = d.and(s)
		if x.Len() != n+1 {
			t.Errorf("Len() = %d behind %d rows", x.Len(), n+1)
		}
	}
	wantTable(t, "all edges", x, d)
	for n, s := range edgeRows() {
		apply(t, x, gone(string(s.Key)))
		d = d.and(gone(string(s.Key)))
		if x.Len() != len(edgeRows())-n-1 {
			t.Errorf("Len() = %d behind %d deletes", x.Len(), n+1)
		}
		wantTable(t, "without "+told([]api.Set{s}), x, d)
	}
}

// P13.2: a value without bytes is there; nothing else is.
func TestGetOfAValueWithoutBytes(t *testing.T) {
	for _, value := range [][]byte{nil, {}} {
		x, _ := made(t, api.Set{Key: []byte("ab"), Value: value})
		wantValue(t, "no bytes", x, "ab", "", true)
		wantValue(t, "a beginning", x, "a", "", false)
		wantValue(t, "one byte more", x, "abc", "", false)
		wantValue(t, "no key", x, "", "", false)
		if x.Len() != 1 {
			t.Errorf("Len() = %d", x.Len())
		}
	}
}

// P13.2: beginnings of one key, each there with a value of its own or not there.
func TestGetOfBeginnings(t *testing.T) {
	whole := counted(5, 40)
	for step := 1; step <= 3; step++ {
		x, d := made(t)
		for n := step; n <= 40; n += step {
			apply(t, x, set(whole[:n], counted(n, n)))
			d = d.and(set(whole[:n], counted(n, n)))
		}
		wantTable(t, "beginnings", x, d)
		for n := range 41 {
			want, wantOK := "", false
			if n > 0 && n%step == 0 {
				want, wantOK = counted(n, n), true
			}
			wantValue(t, "beginnings", x, whole[:n], want, wantOK)
		}
	}
}

// P13.2: whatever is asked: nothing and false of what is no key, in a table with rows too.
func TestGetOfNoKey(t *testing.T) {
	x, _ := made(t, edgeRows()...)
	for _, y := range []getter{x, x.Over(), table.New(), table.New().Over()} {
		for _, key := range noKeys() {
			wantValue(t, "no key", y, key, "", false)
		}
		if value, ok := y.Get(nil); len(value) != 0 || ok {
			t.Errorf("Get(nil) = %q, %v", value, ok)
		}
	}
}

// P13.2, P13.3: all keys of one byte, and all of two that begin with some: each has its own value, and they rise as bytes do, not as letters or as signs.
func TestAllBytesAsKeys(t *testing.T) {
	var l []api.Set
	var want []row
	for i := range 256 {
		first := string([]byte{byte(i)})
		l = append(l, set(first, counted(i, i)))
		want = append(want, row{first, counted(i, i)})
		if i%51 > 0 {
			continue
		}
		for j := range 256 {
			key := first + string([]byte{byte(j)})
			l = append(l, set(key, counted(i+j, 2)))
			want = append(want, row{key, counted(i+j, 2)})
		}
	}
	slices.Reverse(l)
	x, _ := made(t, l...)
	if got := rowsOf(x); !slices.Equal(got, want) {
		t.Errorf("All() goes over %.300q", got)
	}
	for _, r := range want {
		wantValue(t, "all bytes", x, r.key, r.value, true)
	}
	if x.Len() != len(want) {
		t.Errorf("Len() = %d, want %d", x.Len(), len(want))
	}
}

// P13.2: asking changes nothing, however often.
func TestAskingChangesNothing(t *testing.T) {
	x, d := made(t, set("a", "1"), set("b", ""))
	for range 3 {
		wantTable(t, "asked", x, d)
		x.Get([]byte("new"))
		x.Get([]byte(strings.Repeat("k", 41)))
		x.All()
		x.Over()
	}
}
