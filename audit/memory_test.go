package audit_test

import (
	"bytes"
	"fmt"
	"slices"
	"strings"
	"testing"

	"culvert/api"
	"culvert/audit"
)

// roomy is a copy of a list in the midst of a longer one: what lies behind it is its spare room.
func roomy(b []byte) (list, all []byte) {
	room := bytes.Repeat([]byte{0x77}, 2*size)
	all = slices.Concat(room, b, room)
	return all[len(room) : len(room)+len(b)], all
}

// someBytes are those of devices of all kinds, and of none.
func someBytes(t *testing.T) map[string][]byte {
	t.Helper()
	junk := bytes.Repeat([]byte{0xEE}, size)
	peers, lanes := full(16, 32)
	wide := logged(64, 5, 9, setBytes(rowsOf(peers, lanes, 5)...))
	out := map[string][]byte{
		"none":            nil,
		"no device":       make([]byte, 100),
		"a sector more":   make([]byte, 8193*size),
		"zeros":           make([]byte, 40*size),
		"junk":            bytes.Repeat(junk, 33),
		"many peers":      wide.bytes(),
		"many lines":      wide.with(0, junk).with(3, junk).with(4, junk).with(60, junk).with(61, junk).bytes(),
		"rows of no kind": logged(32, 5, 9, setBytes(api.Set{Key: []byte("X")})).bytes(),
		"no table":        logged(32, 5, 9, []byte("x")).bytes(),
		"no seqs":         logged(32, 5, maxSeq, nil, setBytes(rowsOf(nil, nil, 3)...)).bytes(),
	}
	for what, b := range soundBytes(t) {
		out[what] = b
	}
	return out
}

// P24.3: what is handed in is not changed, nor is its spare room, nor what lies ahead of it; and it is not kept: it may be written over.
func TestHandedIn(t *testing.T) {
	t.Parallel()
	for what, b := range someBytes(t) {
		wantCheck, wantState := plainCheck(b), plainState(b)
		list, all := roomy(b)
		was := bytes.Clone(all)
		gotCheck, gotState := checkOf(list), stateOf(list)
		if !bytes.Equal(all, was) {
			t.Fatalf("%s: what was handed in, or what lies around it, has changed", what)
		}
		clear(all)
		if !gotCheck.same(wantCheck) || !gotState.same(wantState) {
			t.Fatalf("%s: Check = %v, State = %v, want %v, %v", what, gotCheck, gotState, wantCheck, wantState)
		}
		// The same bytes, of which the capacity is just their length.
		if got := checkOf(slices.Clip(bytes.Clone(b))); !got.same(wantCheck) {
			t.Fatalf("%s: Check = %v, want %v", what, got, wantCheck)
		}
	}
}

// marked is written into all of a list, its spare room too.
func marked[T any](l []T, mark T) {
	l = l[:cap(l)]
	for i := range l {
		l[i] = mark
	}
}

// P24.3: what is answered is new memory, each list by itself, its spare room too: when each is written over, in whatever order, no other one shows it.
func TestHandedOut(t *testing.T) {
	t.Parallel()
	for what, b := range someBytes(t) {
		wantCheck, wantState := plainCheck(b), plainState(b)
		first, second := stateOf(b), stateOf(b)
		lines, again := checkOf(b), checkOf(b)

		lines.lines = append(lines.lines, "more")
		marked(lines.lines, "over")
		if !again.same(wantCheck) {
			t.Fatalf("%s: Check = %v, want %v", what, again, wantCheck)
		}
		// The keys and prefixes, one list at a time: all the others are as they were.
		for i := range first.peers {
			marked(first.peers[i].Key, 0xAA)
			wantState.peers[i].Key = bytes.Repeat([]byte{0xAA}, 32)
			if !first.same(wantState) {
				t.Fatalf("%s: a peer's key is written over: %v, want %v", what, first, wantState)
			}
			n := len(first.peers[i].Prefixes)
			marked(first.peers[i].Prefixes, api.Prefix{Bits: -1})
			wantState.peers[i].Prefixes = slices.Repeat([]api.Prefix{{Bits: -1}}, n)
			if !first.same(wantState) {
				t.Fatalf("%s: a peer's prefixes are written over: %v, want %v", what, first, wantState)
			}
		}
		for i := range first.lanes {
			marked(first.lanes[i].Key, 0xBB)
			wantState.lanes[i].Key = bytes.Repeat([]byte{0xBB}, 32)
			if !first.same(wantState) {
				t.Fatalf("%s: a lane's key is written over: %v, want %v", what, first, wantState)
			}
		}
		lanes := slices.Clone(first.lanes)
		marked(first.peers, api.Peer{Link: -1})
		if !slices.EqualFunc(first.lanes, lanes, sameLane) {
			t.Fatalf("%s: the peers are written over, and the lanes have changed", what)
		}
		marked(first.lanes, api.Lane{Cur: -1})
		if want := plainState(b); !second.same(want) || !stateOf(b).same(want) || !checkOf(b).same(wantCheck) {
			t.Fatalf("%s: State = %v, want %v", what, second, want)
		}
	}
}

// P24.3: what is answered may be grown: no list grows into another one.
func TestHandedOutGrows(t *testing.T) {
	t.Parallel()
	for what, b := range someBytes(t) {
		s := stateOf(b)
		for i := range s.peers {
			_ = append(s.peers[i].Key, bytes.Repeat([]byte{0xAA}, 600)...)
			_ = append(s.peers[i].Key, 0xAA)
			_ = append(s.peers[i].Prefixes, api.Prefix{Bits: -1})
		}
		for i := range s.lanes {
			_ = append(s.lanes[i].Key, 0xAA)
			_ = append(s.lanes[i].Key, bytes.Repeat([]byte{0xAA}, 600)...)
		}
		_ = append(s.peers, api.Peer{Link: -1})
		_ = append(s.lanes, api.Lane{Cur: -1})
		if want := plainState(b); !s.same(want) {
			t.Fatalf("%s: State = %v, want %v", what, s, want)
		}
	}
}

// P24.3, P0.4: no call hangs on any ahead of it, of the same bytes or of others.
func TestNoCallHangsOnAnother(t *testing.T) {
	t.Parallel()
	all := someBytes(t)
	s := newSampler(1)
	var names []string
	for what := range all {
		names = append(names, what)
	}
	slices.Sort(names)
	wantChecks, wantStates := map[string]checked{}, map[string]state{}
	for what, b := range all {
		wantChecks[what], wantStates[what] = plainCheck(b), plainState(b)
	}
	var past []string
	for range 150 {
		what := names[s.IntN(len(names))]
		past = append(past, what)
		if s.IntN(2) == 0 {
			if got := checkOf(all[what]); !got.same(wantChecks[what]) {
				t.Fatalf("behind %s: Check = %v, want %v", strings.Join(past, ", "), got, wantChecks[what])
			}
		} else if got := stateOf(all[what]); !got.same(wantStates[what]) {
			t.Fatalf("behind %s: State = %v, want %v", strings.Join(past, ", "), got, wantStates[what])
		}
	}
}

// P24.1, P24.2: beside an error there is nothing else; an empty list is as good as nil.
func TestNothingBesideErrors(t *testing.T) {
	t.Parallel()
	for what, b := range someBytes(t) {
		peers, lanes, boots, e := audit.State(b)
		if e != api.OK && (len(peers) > 0 || len(lanes) > 0 || boots != 0) {
			t.Errorf("%s: State = %v, %v, %d beside %d", what, peers, lanes, boots, e)
		}
		lines, e := audit.Check(b)
		if e != api.OK && (len(lines) > 0 || e != errSectors) {
			t.Errorf("%s: Check = %q beside %d", what, lines, e)
		}
		stateLine := fmt.Sprintf("state %d", int(plainState(b).err))
		if e == api.OK && slices.Contains(lines, stateLine) != (plainState(b).err != api.OK) {
			t.Errorf("%s: Check = %q, the state's error is %d", what, lines, plainState(b).err)
		}
	}
}
