package lane_test

import (
	"bytes"
	"testing"

	"culvert/api"
	"culvert/lane"
)

func wantNew(t *testing.T, what string, k []byte, side int, want api.Lane) {
	t.Helper()
	if got := lane.New(k, side); !sameLane(got, want) {
		t.Errorf("%s: New(%d bytes, %d) = %s, want %s", what, len(k), side, told(got), told(want))
	}
}

// P17.2: that key and side, Cur 1, all else zero.
func TestNew(t *testing.T) {
	for _, k := range [][]byte{key(1), key(2), make([]byte, 32), bytes.Repeat([]byte{255}, 32), make([]byte, 32, 99), make([]byte, 99)[40:72]} {
		for side := range 2 {
			wantNew(t, "a key", k, side, api.Lane{Key: k, Side: side, Cur: 1})
			if l := lane.New(k, side); !lane.Valid(l) {
				t.Errorf("New(%x, %d) may not be: %s", k, side, told(l))
			}
		}
	}
}

// P17.2: each length of a key, with each side.
func TestNewOfNoKey(t *testing.T) {
	for n := range 70 {
		for _, side := range edgeSides() {
			k := bytes.Repeat([]byte{9}, n)
			var want api.Lane
			if n == 32 && (side == 0 || side == 1) {
				want = api.Lane{Key: k, Side: side, Cur: 1}
			}
			wantNew(t, "a length", k, side, want)
		}
	}
	for side := -1; side < 3; side++ {
		wantNew(t, "nil", nil, side, api.Lane{})
		wantNew(t, "no bytes, with room for a key", make([]byte, 0, 32), side, api.Lane{})
		wantNew(t, "31 bytes, with room for a key", make([]byte, 31, 32), side, api.Lane{})
		wantNew(t, "a long list", make([]byte, 1<<16+32), side, api.Lane{})
	}
}

// P17.2: what becomes of a new lane by each call.
func TestBehindNew(t *testing.T) {
	l := lane.New(key(1), 1)
	want(t, "new", l, again(), answer{lane: api.Lane{Key: key(1), Side: 1, Cur: 2}})
	want(t, "new", l, propose(), answer{lane: api.Lane{Key: key(1), Side: 1, Cur: 1, Next: 2}, gen: 2})
	want(t, "new", l, reserve(0, 1), answer{lane: api.Lane{Key: key(1), Side: 1, Cur: 1, SendCur: 1}})
	want(t, "new", l, raise(0, 1), answer{lane: api.Lane{Key: key(1), Side: 1, Cur: 1, Ceil: 1}})
	want(t, "new", l, answered(2, 0, stampOf(0, 1), 1), answer{lane: api.Lane{Key: key(1), Side: 1, Cur: 2, SendCur: 1, Ceil: 1, Seen: stampOf(0, 1)}})
	want(t, "new, the zero stamp", l, answered(2, 0, stampOf(0, 0), 1), answer{})
	want(t, "new, nothing proposed", l, opened(2, 0, 1), answer{})
}
