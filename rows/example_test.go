package rows_test

import (
	"bytes"
	"encoding/hex"
	"testing"

	"culvert/api"
	"culvert/rows"
)

// The examples of the chapter, for some K.
func TestExamples(t *testing.T) {
	for _, k := range [][]byte{make([]byte, 32), bytes.Repeat([]byte{0xFF}, 32), key(5)} {
		exampleRows(t, k)
		exampleRefusals(t, k)
		exampleStates(t, k)
	}
}

func wantRow(t *testing.T, what string, r api.Row, e api.Errno, want api.Row) {
	t.Helper()
	if !sameRow(r, want) || e != api.OK {
		t.Errorf("%s = %s, %d, want %s, OK", what, toldRow(r), e, toldRow(want))
	}
}

func exampleRows(t *testing.T, k []byte) {
	hexed := hex.EncodeToString(k)
	r, e := rows.PutBoots(258)
	wantRow(t, "PutBoots", r, e, hexRow(t, "42", "00 00 00 00 00 00 01 02"))
	r, e = rows.PutPeer(peer(1, k))
	wantRow(t, "PutPeer without prefixes", r, e, hexRow(t, "50 00 00 00 01", hexed+"00"))
	if len(r.Value) != 33 {
		t.Errorf("PutPeer without prefixes: a value of %d bytes", len(r.Value))
	}
	r, e = rows.PutPeer(peer(1, k, pre("10.0.0.0/8")))
	wantRow(t, "PutPeer with a prefix", r, e, hexRow(t, "50 00 00 00 01", hexed+"01 04 08 0A 00 00 00"))
	r, e = rows.PutLane(api.Lane{Key: k, Side: 1, Cur: 1, Ceil: 1000, Seen: api.Stamp{Sec: 5, Nano: 6}})
	wantRow(t, "PutLane", r, e, hexRow(t, "4C"+hexed, "01 00000001 00000000 0000000000000000 00000000000003E8 0000000000000005 00000006"))
}

func exampleRefusals(t *testing.T, k []byte) {
	for _, p := range []api.Peer{peer(0, k), peer(1, k[:31]), peer(1, k, pres("10.0.0.0/8", "10.0.0.0/8")...)} {
		if r, e := rows.PutPeer(p); !sameRow(r, api.Row{}) || e != api.ErrRow {
			t.Errorf("PutPeer(%v) = %s, %d, want the zero row, ErrRow", p, toldRow(r), e)
		}
	}
	for _, r := range []api.Row{{Key: []byte{0x42}, Value: make([]byte, 7)}, {Key: []byte{0x42, 0}, Value: make([]byte, 8)}} {
		if n, e := rows.GetBoots(r); n != 0 || e != api.ErrRow {
			t.Errorf("GetBoots(%s) = %d, %d, want 0, ErrRow", toldRow(r), n, e)
		}
	}
}

func exampleStates(t *testing.T, k []byte) {
	one, its := peer(1, k), lane(k, 3)
	wantRead(t, "no rows", nil, state{})
	row, _ := plainPutPeer(one)
	wantRefused(t, "a peer's row alone", []api.Row{row})
	laneRow, _ := plainPutLane(its)
	s, e := rows.Sets(nil, []api.Peer{one}, nil, []api.Lane{its})
	want := []api.Set{{Key: laneRow.Key, Value: laneRow.Value}, {Key: row.Key, Value: row.Value}}
	if !sameSets(s, want) || e != api.OK {
		t.Errorf("Sets of a new peer and its lane = %s, %d", toldSets(s), e)
	}
	s, e = rows.Sets([]api.Peer{one}, nil, []api.Lane{its}, []api.Lane{its})
	if !sameSets(s, []api.Set{{Key: row.Key, Gone: true}}) || e != api.OK {
		t.Errorf("Sets of a peer that goes = %s, %d", toldSets(s), e)
	}
}
