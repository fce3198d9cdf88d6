package table_test

import (
	"bytes"
	"encoding/hex"
	"fmt"
	"slices"
	"strings"
	"testing"

	"culvert/api"
	"culvert/table"
)

// hexBytes reads bytes that are written out, with any spaces and dots between.
func hexBytes(t *testing.T, text string) []byte {
	t.Helper()
	b, err := hex.DecodeString(strings.NewReplacer(" ", "", "·", "").Replace(text))
	if err != nil {
		t.Fatalf("%q: %v", text, err)
	}
	return b
}

// brief cuts a long text.
func brief(text string) string {
	if len(text) > 24 {
		return fmt.Sprintf("%q.. of %d", text[:20], len(text))
	}
	return fmt.Sprintf("%q", text)
}

func briefBytes(b []byte) string {
	if len(b) > 60 {
		return fmt.Sprintf("%x.. of %d", b[:50], len(b))
	}
	return fmt.Sprintf("%x", b)
}

// told is a list of sets in few words.
func told(l []api.Set) string {
	var out []string
	for i, s := range l {
		if i == 12 {
			return fmt.Sprintf("[%s ..] (%d sets)", strings.Join(out, ", "), len(l))
		}
		text := brief(string(s.Key)) + " " + brief(string(s.Value))
		if s.Gone {
			text += " gone"
		}
		out = append(out, text)
	}
	return "[" + strings.Join(out, ", ") + "]"
}

// same: nil and the empty list are the same.
func same(a, b []api.Set) bool {
	return slices.EqualFunc(a, b, func(x, y api.Set) bool {
		return bytes.Equal(x.Key, y.Key) && bytes.Equal(x.Value, y.Value) && x.Gone == y.Gone
	})
}

func cloned(l []api.Set) []api.Set {
	var out []api.Set
	for _, s := range l {
		out = append(out, api.Set{Key: bytes.Clone(s.Key), Value: bytes.Clone(s.Value), Gone: s.Gone})
	}
	return out
}

func wantErr(t *testing.T, what string, got, want api.Errno) {
	t.Helper()
	if got != want {
		t.Errorf("%s = %d, want %d", what, got, want)
	}
}

func apply(t *testing.T, x *table.Table, l ...api.Set) {
	t.Helper()
	wantErr(t, "Apply("+told(l)+")", x.Apply(l), api.OK)
}

// made is a table to which these were done, and the same as a list.
func made(t *testing.T, l ...api.Set) (*table.Table, done) {
	t.Helper()
	x := table.New()
	apply(t, x, l...)
	return x, l
}

func rowsOf(x *table.Table) []row {
	var out []row
	for key, value := range x.All() {
		out = append(out, row{string(key), string(value)})
	}
	return out
}

type getter interface {
	Get(key []byte) ([]byte, bool)
}

// wantGets: Get tells what the last set of each key says, of what is no key nothing.
func wantGets(t *testing.T, what string, x getter, d done) {
	t.Helper()
	for _, key := range near(d.keys()) {
		want, wantOK := d.get(key)
		if value, ok := x.Get([]byte(key)); string(value) != want || ok != wantOK {
			t.Fatalf("%s: Get(%s) = %s, %v, want %s, %v", what, brief(key), brief(string(value)), ok, brief(want), wantOK)
		}
	}
}

// wantTable: all that a table tells is what was done to it.
func wantTable(t *testing.T, what string, x *table.Table, d done) {
	t.Helper()
	if x == nil {
		t.Fatalf("%s: no table", what)
	}
	want := d.rows()
	if n := x.Len(); n != len(want) {
		t.Fatalf("%s: Len() = %d, want %d", what, n, len(want))
	}
	if got := rowsOf(x); !slices.Equal(got, want) {
		t.Fatalf("%s: All() goes over %.300q, want %.300q", what, got, want)
	}
	if b := x.Bytes(); !bytes.Equal(b, d.bytes()) {
		t.Fatalf("%s: Bytes() = %s, want %s", what, briefBytes(b), briefBytes(d.bytes()))
	}
	wantGets(t, what, x, d)
}

// wantOver: all that changes tell is what was done ahead of them and with them.
func wantOver(t *testing.T, what string, o *table.Over, c changes) {
	t.Helper()
	if o == nil {
		t.Fatalf("%s: no changes", what)
	}
	if got := o.Sets(); !same(got, c.sets()) {
		t.Fatalf("%s: Sets() = %s, want %s", what, told(got), told(c.sets()))
	}
	wantGets(t, what, o, c.now)
}

// do does sets to changes, each by the call that is for it.
func do(t *testing.T, o *table.Over, c changes, l ...api.Set) changes {
	t.Helper()
	for _, s := range l {
		if s.Gone {
			_, want := c.now.get(string(s.Key))
			if got := o.Delete(s.Key); got != want {
				t.Fatalf("Delete(%s) = %v, want %v", brief(string(s.Key)), got, want)
			}
		} else {
			wantErr(t, "Set("+told([]api.Set{s})+")", o.Set(s.Key, s.Value), api.OK)
		}
		c = c.and(s)
	}
	return c
}

// laid are changes over a table, with none done.
func laid(x *table.Table, d done) (*table.Over, changes) { return x.Over(), changes{d, d} }

// wantPut holds PutSets of any list against the chapter's words.
func wantPut(t *testing.T, l []api.Set) {
	t.Helper()
	want, wantErr := []byte(nil), api.ErrRow
	if b, ok := plainPut(l); ok {
		want, wantErr = b, api.OK
	}
	if b, e := table.PutSets(l); !bytes.Equal(b, want) || e != wantErr {
		t.Fatalf("PutSets(%s) = %s, %d, want %s, %d", told(l), briefBytes(b), e, briefBytes(want), wantErr)
	}
}

// wantGet holds GetSets and FromBytes of any bytes against the chapter's words.
func wantGet(t *testing.T, b []byte) {
	t.Helper()
	want, wantErr := []api.Set(nil), api.ErrRow
	if l, ok := plainGet(b); ok {
		want, wantErr = l, api.OK
	}
	if l, e := table.GetSets(b); !same(l, want) || e != wantErr {
		t.Fatalf("GetSets(%s) = %s, %d, want %s, %d", briefBytes(b), told(l), e, told(want), wantErr)
	}
	wantFrom(t, b)
}

// wantFrom holds FromBytes of any bytes against the chapter's words.
func wantFrom(t *testing.T, b []byte) {
	t.Helper()
	x, e := table.FromBytes(b)
	d, ok := plainFrom(b)
	switch {
	case !ok && (x != nil || e != api.ErrRow):
		t.Fatalf("FromBytes(%s) = %v, %d, want no table and ErrRow", briefBytes(b), x != nil, e)
	case ok && (x == nil || e != api.OK):
		t.Fatalf("FromBytes(%s) = %v, %d, want a table and OK", briefBytes(b), x != nil, e)
	case ok && !slices.Equal(rowsOf(x), d.rows()):
		t.Fatalf("FromBytes(%s) has %.300q", briefBytes(b), rowsOf(x))
	}
}

// wantNone: the bytes are those of no sets, by whatever they fail.
func wantNone(t *testing.T, what string, b []byte) {
	t.Helper()
	if l, e := table.GetSets(b); len(l) != 0 || e != api.ErrRow {
		t.Errorf("%s: GetSets(%s) = %s, %d, want none, ErrRow", what, briefBytes(b), told(l), e)
	}
	if x, e := table.FromBytes(b); x != nil || e != api.ErrRow {
		t.Errorf("%s: FromBytes(%s) = %v, %d, want no table, ErrRow", what, briefBytes(b), x != nil, e)
	}
}
