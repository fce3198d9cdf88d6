package rows_test

import (
	"bytes"
	"encoding/hex"
	"fmt"
	"slices"
	"strings"
	"testing"

	"culvert/api"
	"culvert/rows"
)

// unhex reads hex digits; spaces between them don't count.
func unhex(t *testing.T, text string) []byte {
	t.Helper()
	b, err := hex.DecodeString(strings.ReplaceAll(text, " ", ""))
	if err != nil {
		t.Fatalf("%q: %v", text, err)
	}
	return b
}

func hexRow(t *testing.T, key, value string) api.Row {
	t.Helper()
	return api.Row{Key: unhex(t, key), Value: unhex(t, value)}
}

func brief(b []byte) string {
	if len(b) > 90 {
		return fmt.Sprintf("%x.. of %d", b[:80], len(b))
	}
	return fmt.Sprintf("%x", b)
}

func toldRow(r api.Row) string { return "{" + brief(r.Key) + ": " + brief(r.Value) + "}" }

func toldRows(l []api.Row) string {
	var out []string
	for _, r := range l {
		out = append(out, toldRow(r))
	}
	return fmt.Sprintf("%.900s", strings.Join(out, ", "))
}

func toldSets(l []api.Set) string {
	var out []string
	for _, s := range l {
		text := brief(s.Key) + ": " + brief(s.Value)
		if s.Gone {
			text += " gone"
		}
		out = append(out, text)
	}
	return fmt.Sprintf("%.900s", "["+strings.Join(out, ", ")+"]")
}

// Of all lists nil and the empty one are the same.

func sameRow(a, b api.Row) bool { return bytes.Equal(a.Key, b.Key) && bytes.Equal(a.Value, b.Value) }

func sameSet(a, b api.Set) bool {
	return bytes.Equal(a.Key, b.Key) && bytes.Equal(a.Value, b.Value) && a.Gone == b.Gone
}

func sameSets(a, b []api.Set) bool { return slices.EqualFunc(a, b, sameSet) }

func samePeer(a, b api.Peer) bool {
	return a.Link == b.Link && bytes.Equal(a.Key, b.Key) && slices.Equal(a.Prefixes, b.Prefixes)
}

func sameLane(a, b api.Lane) bool {
	return bytes.Equal(a.Key, b.Key) && a.Side == b.Side && a.Cur == b.Cur && a.Next == b.Next && a.SendCur == b.SendCur && a.Ceil == b.Ceil && a.Seen == b.Seen
}

func sameState(a, b state) bool {
	return slices.EqualFunc(a.peers, b.peers, samePeer) && slices.EqualFunc(a.lanes, b.lanes, sameLane) && a.boots == b.boots
}

// errOf is the error that goes with a plain answer.
func errOf(ok bool) api.Errno {
	if ok {
		return api.OK
	}
	return api.ErrRow
}

func sameInt(a, b int) bool { return a == b }

// wantPut holds a Put against its plain form.
func wantPut[T any](t *testing.T, name string, thing T, put func(T) (api.Row, api.Errno), plain func(T) (api.Row, bool)) {
	t.Helper()
	want, ok := plain(thing)
	if r, e := put(thing); !sameRow(r, want) || e != errOf(ok) {
		t.Fatalf("%s(%.400v) = %s, %d, want %s, %d", name, thing, toldRow(r), e, toldRow(want), errOf(ok))
	}
}

func wantPutPeer(t *testing.T, p api.Peer) {
	t.Helper()
	wantPut(t, "PutPeer", p, rows.PutPeer, plainPutPeer)
}

func wantPutLane(t *testing.T, l api.Lane) {
	t.Helper()
	wantPut(t, "PutLane", l, rows.PutLane, plainPutLane)
}

func wantPutBoots(t *testing.T, n int) {
	t.Helper()
	wantPut(t, "PutBoots", n, rows.PutBoots, plainPutBoots)
}

// wantGet holds a Get against its plain form; beside an error the zero thing is wanted.
func wantGet[T any](t *testing.T, name string, r api.Row, get func(api.Row) (T, api.Errno), plain func(api.Row) (T, bool), same func(a, b T) bool) {
	t.Helper()
	want, ok := plain(r)
	if got, e := get(r); !same(got, want) || e != errOf(ok) {
		t.Fatalf("%s(%s) = %.400v, %d, want %.400v, %d", name, toldRow(r), got, e, want, errOf(ok))
	}
}

// wantGets holds all three against their plain forms.
func wantGets(t *testing.T, r api.Row) {
	t.Helper()
	wantGet(t, "GetPeer", r, rows.GetPeer, plainGetPeer, samePeer)
	wantGet(t, "GetLane", r, rows.GetLane, plainGetLane, sameLane)
	wantGet(t, "GetBoots", r, rows.GetBoots, plainGetBoots, sameInt)
}

// wantNone: the row is none of the three, by whatever it fails, and nothing is told of it.
func wantNone(t *testing.T, what string, r api.Row) {
	t.Helper()
	if p, e := rows.GetPeer(r); !samePeer(p, api.Peer{}) || e != api.ErrRow {
		t.Errorf("%s: GetPeer(%s) = %v, %d, want nothing, ErrRow", what, toldRow(r), p, e)
	}
	if l, e := rows.GetLane(r); !sameLane(l, api.Lane{}) || e != api.ErrRow {
		t.Errorf("%s: GetLane(%s) = %v, %d, want nothing, ErrRow", what, toldRow(r), l, e)
	}
	if n, e := rows.GetBoots(r); n != 0 || e != api.ErrRow {
		t.Errorf("%s: GetBoots(%s) = %v, %d, want 0, ErrRow", what, toldRow(r), n, e)
	}
}

func stateOf(l []api.Row) (state, api.Errno) {
	peers, lanes, boots, e := rows.State(l)
	return state{peers, lanes, boots}, e
}

// wantState holds State against its plain form.
func wantState(t *testing.T, what string, l []api.Row) {
	t.Helper()
	want, ok := plainState(l)
	if got, e := stateOf(l); !sameState(got, want) || e != errOf(ok) {
		t.Fatalf("%s: State(%s) = %.900v, %d, want %.900v, %d", what, toldRows(l), got, e, want, errOf(ok))
	}
}

// wantRefused: State answers ErrRow, and nothing else.
func wantRefused(t *testing.T, what string, l []api.Row) {
	t.Helper()
	if got, e := stateOf(l); !sameState(got, state{}) || e != api.ErrRow {
		t.Errorf("%s: State = %.900v, %d, want nothing, ErrRow", what, got, e)
	}
}

// wantRead: State answers just this.
func wantRead(t *testing.T, what string, l []api.Row, want state) {
	t.Helper()
	if got, e := stateOf(l); !sameState(got, want) || e != api.OK {
		t.Errorf("%s: State = %.900v, %d, want %.900v, OK", what, got, e, want)
	}
}

func setsOf(was, is state) ([]api.Set, api.Errno) {
	return rows.Sets(was.peers, is.peers, was.lanes, is.lanes)
}

// wantSets holds Sets against its plain form.
func wantSets(t *testing.T, what string, was, is state) {
	t.Helper()
	want, ok := plainSets(was.peers, is.peers, was.lanes, is.lanes)
	if got, e := setsOf(was, is); !sameSets(got, want) || e != errOf(ok) {
		t.Fatalf("%s: Sets(%.400v, %.400v) = %s, %d, want %s, %d", what, was, is, toldSets(got), e, toldSets(want), errOf(ok))
	}
}

// wantNoSets: Sets answers ErrRow, and nothing else.
func wantNoSets(t *testing.T, what string, was, is state) {
	t.Helper()
	if got, e := setsOf(was, is); len(got) != 0 || e != api.ErrRow {
		t.Errorf("%s: Sets = %s, %d, want nothing, ErrRow", what, toldSets(got), e)
	}
}
