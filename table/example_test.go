package table_test

import (
	"bytes"
	"slices"
	"strings"
	"testing"

	"culvert/api"
	"culvert/table"
)

func wantValue(t *testing.T, what string, x getter, key, want string, wantOK bool) {
	t.Helper()
	if value, ok := x.Get([]byte(key)); string(value) != want || ok != wantOK {
		t.Errorf("%s: Get(%q) = %q, %v, want %q, %v", what, key, value, ok, want, wantOK)
	}
}

func wantSets(t *testing.T, what string, o *table.Over, want ...api.Set) {
	t.Helper()
	if got := o.Sets(); !same(got, want) {
		t.Errorf("%s: Sets() = %s, want %s", what, told(got), told(want))
	}
}

func wantDelete(t *testing.T, what string, o *table.Over, key string, want bool) {
	t.Helper()
	if got := o.Delete([]byte(key)); got != want {
		t.Errorf("%s: Delete(%s) = %v", what, brief(key), got)
	}
}

// The chapter's examples, row by row: P13.1 to P13.7.
func TestExamples(t *testing.T) {
	x := table.New()
	wantErr(t, "Apply of no key", x.Apply([]api.Set{set("", "x")}), api.ErrRow)
	wantErr(t, "Apply of 41 bytes", x.Apply([]api.Set{set("b", "2"), set(strings.Repeat("k", 41), "x")}), api.ErrRow)
	wantErr(t, "Apply of 481 bytes", x.Apply([]api.Set{set("k", strings.Repeat("v", 481))}), api.ErrRow)
	if n := x.Len(); n != 0 {
		t.Errorf("Len() = %d", n)
	}
	wantErr(t, "Apply", x.Apply([]api.Set{set("b", "2"), set("a", "0"), set("ab", ""), set("a", "1"), gone("z")}), api.OK)
	if n := x.Len(); n != 3 {
		t.Errorf("Len() = %d", n)
	}
	if got := rowsOf(x); !slices.Equal(got, []row{{"a", "1"}, {"ab", ""}, {"b", "2"}}) {
		t.Errorf("All() goes over %q", got)
	}
	wantValue(t, "the table", x, "ab", "", true)
	wantValue(t, "the table", x, "z", "", false)
	if b := x.Bytes(); !bytes.Equal(b, hexBytes(t, "01 01 00 01 61 31 · 01 02 00 00 61 62 · 01 01 00 01 62 32")) {
		t.Errorf("Bytes() = %x", b)
	}

	o := x.Over()
	wantDelete(t, "once", o, "a", true)
	wantDelete(t, "twice", o, "a", false)
	wantErr(t, "Set(b, 2)", o.Set([]byte("b"), []byte("2")), api.OK)
	wantErr(t, "Set(c, 3)", o.Set([]byte("c"), []byte("3")), api.OK)
	wantErr(t, "Set(, x)", o.Set(nil, []byte("x")), api.ErrRow)
	wantValue(t, "the changes", o, "a", "", false)
	wantValue(t, "the changes", o, "c", "3", true)
	wantSets(t, "the changes", o, gone("a"), set("c", "3"))
	if n := x.Len(); n != 3 {
		t.Errorf("Len() = %d", n)
	}
	wantErr(t, "Apply(c, 3)", x.Apply([]api.Set{set("c", "3")}), api.OK)
	wantSets(t, "behind Apply", o, gone("a"), set("c", "3"))
	wantErr(t, "Set(a, 1)", o.Set([]byte("a"), []byte("1")), api.OK)
	wantDelete(t, "what was set", o, "c", true)
	wantSets(t, "nothing", o)

	for _, text := range []string{"01 01 00 00 62 · 01 01 00 00 61", "00 01 00 01 61 31", "02 01 00 00 61", "01 00 00 00"} {
		wantNone(t, "the examples", hexBytes(t, text))
	}
	b := hexBytes(t, "00 01 00 00 61")
	if l, e := table.GetSets(b); !same(l, []api.Set{gone("a")}) || e != api.OK {
		t.Errorf("GetSets(%x) = %s, %d", b, told(l), e)
	}
	if y, e := table.FromBytes(b); y != nil || e != api.ErrRow {
		t.Errorf("FromBytes(%x) = %v, %d", b, y, e)
	}
	if b, e := table.PutSets([]api.Set{set("a", "1"), set("a", "1")}); len(b) != 0 || e != api.ErrRow {
		t.Errorf("PutSets of the same key twice = %x, %d", b, e)
	}
}

// The limits and the number of the error are those of the document.
func TestLimits(t *testing.T) {
	if api.MaxRowKey != maxKey || api.MaxRowValue != maxValue || api.OK != 0 || api.ErrRow != 114 {
		t.Errorf("the limits are others")
	}
}
