package rows_test

import (
	"slices"
	"strings"
	"testing"

	"culvert/api"
	"culvert/rows"
	"culvert/table"
)

// do does sets to rows, one behind the other.
func do(l []textRow, sets []api.Set) []textRow {
	out := slices.Clone(l)
	for _, s := range sets {
		out = slices.DeleteFunc(out, func(r textRow) bool { return r.key == string(s.Key) })
		if !s.Gone {
			out = append(out, textRow{string(s.Key), string(s.Value)})
		}
	}
	slices.SortFunc(out, func(a, b textRow) int { return strings.Compare(a.key, b.key) })
	return out
}

// wantTurned: the sets make the new rows of the old ones, and none of them could be spared.
func wantTurned(t *testing.T, was, is state) {
	t.Helper()
	old, ok := plainRows(was.peers, was.lanes)
	want, newOK := plainRows(is.peers, is.lanes)
	sets, e := setsOf(was, is)
	if !ok || !newOK || e != api.OK {
		t.Fatalf("Sets(%.400v, %.400v) = %d", was, is, e)
	}
	if got := do(old, sets); !slices.Equal(got, want) {
		t.Fatalf("Sets(%.400v, %.400v) = %s: they make %.900q, want %.900q", was, is, toldSets(sets), got, want)
	}
	for i := range sets {
		if slices.Equal(do(old, slices.Delete(slices.Clone(sets), i, i+1)), want) {
			t.Fatalf("Sets(%.400v, %.400v): the set %s is of no use", was, is, toldSets(sets[i:i+1]))
		}
	}
	if slices.Equal(old, want) && len(sets) > 0 {
		t.Fatalf("two alike states have the sets %s", toldSets(sets))
	}
}

// smallStates are all of two links, each without a peer or with one of two keys, with a prefix or without, and of two keys, each without a lane or with one of two.
func smallStates() []state {
	out := []state{{}}
	for _, link := range []int{2, 256} {
		for _, s := range slices.Clone(out) {
			for _, k := range []int{1, 2} {
				for _, l := range [][]api.Prefix{nil, pres("10.0.0.0/8")} {
					out = append(out, state{peers: append(slices.Clone(s.peers), peer(link, key(k), l...))})
				}
			}
		}
	}
	for _, k := range []int{1, 2} {
		for _, s := range slices.Clone(out) {
			for _, number := range []int{3, 4} {
				out = append(out, state{peers: s.peers, lanes: append(slices.Clone(s.lanes), lane(key(k), number))})
			}
		}
	}
	return out
}

// P15.6: of all small states each is turned into each.
func TestAllSmallStates(t *testing.T) {
	all := smallStates()
	if len(all) != 25*9 {
		t.Fatalf("%d small states", len(all))
	}
	for _, was := range all {
		for _, is := range all {
			wantTurned(t, was, is)
		}
	}
}

// P15.6: of any states too; and a state and the same in another order have no sets.
func TestAnyStates(t *testing.T) {
	s := newSampler(8)
	for range 300 {
		was, is := full(s.IntN(17), 16+s.IntN(17)), full(s.IntN(17), 16+s.IntN(17))
		for range s.IntN(10) {
			i := s.IntN(len(is.lanes))
			is.lanes[i] = lane(is.lanes[i].Key, s.IntN(99))
		}
		for i := range is.peers {
			if s.IntN(3) == 0 {
				is.peers[i].Prefixes = s.prefixes()
			}
		}
		wantTurned(t, was, is)
		wantTurned(t, is, was)
		again := state{peers: shuffled(s, is.peers), lanes: shuffled(s, is.lanes)}
		wantSetsJust(t, "the same in another order", is, again)
	}
}

// P15.6, P15.4: the way round by a table: its rows are a state, the sets of another one are done to it, and its rows are that one.
func TestByATable(t *testing.T) {
	s := newSampler(9)
	x := table.New()
	boots, _ := rows.PutBoots(3)
	if e := x.Apply([]api.Set{put(boots)}); e != api.OK {
		t.Fatalf("Apply = %d", e)
	}
	for range 200 {
		peers := s.IntN(17)
		is := full(peers, max(peers, s.IntN(33)))
		is.boots = 3
		was := readTable(t, x)
		sets, e := setsOf(was, is)
		if _, form := table.PutSets(sets); e != api.OK || form != api.OK || x.Apply(sets) != api.OK {
			t.Fatalf("Sets = %s, %d, of which PutSets answers %d", toldSets(sets), e, form)
		}
		if got := readTable(t, x); !sameState(got, is) {
			t.Fatalf("the state is %.900v, want %.900v", got, is)
		}
	}
}

func readTable(t *testing.T, x *table.Table) state {
	t.Helper()
	var l []api.Row
	for key, value := range x.All() {
		l = append(l, api.Row{Key: key, Value: value})
	}
	s, e := stateOf(l)
	if e != api.OK {
		t.Fatalf("State(%s) = %d", toldRows(l), e)
	}
	return s
}
