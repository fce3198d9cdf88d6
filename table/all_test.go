package table_test

import (
	"iter"
	"slices"
	"testing"

	"culvert/api"
)

// through is what an iterator goes through.
func through(all iter.Seq2[[]byte, []byte]) []row {
	var out []row
	for key, value := range all {
		out = append(out, row{string(key), string(value)})
	}
	return out
}

// permuted calls with each order of a list.
func permuted(list []api.Set, call func([]api.Set)) {
	var from func(n int)
	from = func(n int) {
		if n == len(list) {
			call(list)
			return
		}
		for i := n; i < len(list); i++ {
			list[n], list[i] = list[i], list[n]
			from(n + 1)
			list[n], list[i] = list[i], list[n]
		}
	}
	from(0)
}

// P13.3, P13.6, P13.9: keys rise, whatever the order in which they came, in one Apply or in many; so do the bytes.
func TestAllRises(t *testing.T) {
	want := []row{{"\x00", "5"}, {"a", "2"}, {"a\x00", "6"}, {"ab", "1"}, {"b", "3"}, {"\xff", "4"}}
	var list []api.Set
	for _, r := range want {
		list = append(list, set(r.key, r.value))
	}
	wantBytes, _ := plainPut(list)
	permuted(list, func(order []api.Set) {
		x, _ := made(t, order...)
		y, _ := made(t)
		for _, s := range order {
			apply(t, y, s)
		}
		if got := rowsOf(x); !slices.Equal(got, want) {
			t.Fatalf("All() goes over %q behind %s", got, told(order))
		}
		if got := rowsOf(y); !slices.Equal(got, want) {
			t.Fatalf("All() goes over %q behind %s, one by one", got, told(order))
		}
		if string(x.Bytes()) != string(wantBytes) || string(y.Bytes()) != string(wantBytes) {
			t.Fatalf("Bytes() = %x and %x behind %s", x.Bytes(), y.Bytes(), told(order))
		}
	})
}

// P13.3: All of a table without rows, of one row, of rows that all went.
func TestAllOfNone(t *testing.T) {
	x, _ := made(t)
	all := x.All()
	apply(t, x, set("a", "1"))
	one := x.All()
	apply(t, x, gone("a"))
	for range 2 {
		if got := through(all); len(got) != 0 {
			t.Errorf("All() of none goes over %q", got)
		}
		if got := through(one); !slices.Equal(got, []row{{"a", "1"}}) {
			t.Errorf("All() of one goes over %q", got)
		}
		if got := through(x.All()); len(got) != 0 {
			t.Errorf("All() of one that went goes over %q", got)
		}
	}
}

// P13.3: the rows are those of the moment when All was called: what is set, deleted and set anew behind that does not show, ahead of the first going, between two, and while one is under way.
func TestAllOfThatMoment(t *testing.T) {
	first := []api.Set{set("a", "1"), set("b", "2"), set("c", ""), set("d", "4")}
	for _, behind := range [][]api.Set{
		{set("b", "9")}, {gone("b")}, {set("e", "5")}, {set("\x00", "0")}, {gone("a"), gone("b"), gone("c"), gone("d")},
		{gone("b"), set("b", "3")}, {gone("c"), set("c", "3")}, {set("b", "")}, {set("bb", "7"), gone("d")}, {gone("a"), set("a", "1")},
	} {
		x, d := made(t, first...)
		all, late := x.All(), x.All() // late is gone through for the first time behind all that is done
		for round := range 3 {
			var got []row
			for key, value := range all {
				got = append(got, row{string(key), string(value)})
				if round == 1 && len(got) == 2 || round == 2 && len(got) == 1 {
					apply(t, x, behind...)
				}
			}
			if !slices.Equal(got, d.rows()) {
				t.Errorf("All() ahead of %s goes over %q", told(behind), got)
			}
		}
		wantTable(t, "behind "+told(behind), x, d.and(behind...))
		if one, two := through(all), through(late); !slices.Equal(one, d.rows()) || !slices.Equal(two, d.rows()) {
			t.Errorf("All() ahead of %s goes over %q and %q, at last", told(behind), one, two)
		}
	}
}

// P13.3: iterators of many moments, gone through behind all of them.
func TestAllOfManyMoments(t *testing.T) {
	s := newSampler(1)
	x, d := made(t)
	var all []iter.Seq2[[]byte, []byte]
	var want [][]row
	for range 120 {
		all, want = append(all, x.All()), append(want, d.rows())
		l := s.sets(1 + s.IntN(3))
		apply(t, x, l...)
		d = d.and(l...)
	}
	for i := range all {
		if got := through(all[i]); !slices.Equal(got, want[i]) {
			t.Errorf("All() of the moment %d goes over %.300q, want %.300q", i, got, want[i])
		}
	}
}

// P13.3: one iterator is left early at each place, and gone through again and again.
func TestAllLeftEarly(t *testing.T) {
	for size := range len(edgeRows()) + 1 {
		x, d := made(t, edgeRows()[:size]...)
		all := x.All()
		for stop := range size + 1 {
			var got []row
			for key, value := range all {
				if len(got) == stop {
					break
				}
				got = append(got, row{string(key), string(value)})
			}
			if !slices.Equal(got, d.rows()[:stop]) {
				t.Errorf("All() left behind %d goes over %.200q", stop, got)
			}
			if again := through(all); !slices.Equal(again, d.rows()) {
				t.Errorf("All() behind one that was left goes over %.200q", again)
			}
		}
	}
}

// P13.3: who said that it is enough is not called any more.
func TestAllCallsNoMore(t *testing.T) {
	x, d := made(t, edgeRows()...)
	for stop := 1; stop <= len(d); stop++ {
		calls := 0
		x.All()(func([]byte, []byte) bool {
			calls++
			return calls < stop
		})
		if calls != stop {
			t.Errorf("All() that is left behind %d calls %d times", stop, calls)
		}
	}
}

// P13.3: one that is begun while another is under way, of the same iterator and of another one, with the table changed in between: each goes over its own rows.
func TestAllWithinAll(t *testing.T) {
	x, d := made(t, edgeRows()...)
	all := x.All()
	now := d
	var outer []row
	for key, value := range all {
		outer = append(outer, row{string(key), string(value)})
		if inner := through(all); !slices.Equal(inner, d.rows()) {
			t.Fatalf("within: %.200q", inner)
		}
		for inner := range x.All() {
			apply(t, x, gone(string(inner)), set(string(key)[:1]+"new", "n"))
			now = now.and(gone(string(inner)), set(string(key)[:1]+"new", "n"))
			break
		}
		wantTable(t, "within", x, now)
	}
	if !slices.Equal(outer, d.rows()) {
		t.Errorf("around: %.200q", outer)
	}
}

// P13.3: two that go forward by turns, at different places, do not see one another.
func TestAllByTurns(t *testing.T) {
	x, d := made(t, edgeRows()...)
	all := x.All()
	for ahead := range len(d) + 1 {
		next1, stop1 := iter.Pull2(all)
		next2, stop2 := iter.Pull2(all)
		var one, two []row
		for range ahead {
			key, value, _ := next1()
			one = append(one, row{string(key), string(value)})
		}
		for key, value, ok := next2(); ok; key, value, ok = next2() {
			two = append(two, row{string(key), string(value)})
			if key, value, ok := next1(); ok {
				one = append(one, row{string(key), string(value)})
			}
		}
		stop1()
		stop2()
		if !slices.Equal(one, d.rows()) || !slices.Equal(two, d.rows()) {
			t.Errorf("by turns, one ahead by %d: %.200q and %.200q", ahead, one, two)
		}
	}
}
