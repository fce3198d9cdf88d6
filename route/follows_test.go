package route_test

import (
	"reflect"
	"slices"
	"strings"
	"testing"

	"culvert/api"
	"culvert/prefix"
	"culvert/route"
)

// wantAlike: two tables answer alike, and there is nothing more in one of them that an order could have left there.
func wantAlike(t *testing.T, x, y *route.Table) {
	t.Helper()
	if !reflect.DeepEqual(x, y) {
		t.Fatalf("two tables of the same prefixes are unlike: %v and %v", listOf(x), listOf(y))
	}
}

// permuted calls with each order of a list.
func permuted(list []entry, call func([]entry)) {
	var from func(n int)
	from = func(n int) {
		if n == len(list) {
			call(list)
			return
		}
		for i := n; i < len(list); i++ {
			list[n], list[i] = list[i], list[n]
			from(n + 1)
			list[n], list[i] = list[i], list[n]
		}
	}
	from(0)
}

// P8.6: the same prefixes with the same links, brought in in all orders: the same answers.
func TestOrderOfMaking(t *testing.T) {
	for _, list := range [][]entry{
		{{prefix4(0, 0), 1}, {prefix4(0x0A000000, 8), 2}, {prefix4(0x0B000000, 8), 3}, {prefix4(0x0A000000, 7), 4}, {prefix4(0x0A010203, 32), 5}, {prefix6(0, 0, 0), 6}},
		{{prefix6(0, 0, 63), 1}, {prefix6(1, 0, 64), 2}, {prefix6(0, 0, 64), 3}, {prefix6(1, 1<<63, 65), 4}, {prefix6(1, 0, 65), 5}, {prefix6(max64, max64, 128), 1}},
		{{prefix4(0, 32), 1}, {prefix4(1, 32), 1}, {prefix4(2, 32), 2}, {prefix4(3, 32), 2}, {prefix4(0, 31), 1}, {prefix4(1<<31, 1), 3}},
	} {
		first, f := made(t, list...)
		permuted(slices.Clone(list), func(order []entry) {
			x, _ := made(t, order...)
			wantTable(t, x, f)
			wantAlike(t, x, first)
		})
	}
}

// P8.6: the same by ways around: more is brought in and taken out again in between, prefixes come back with another link.
func TestWaysOfMaking(t *testing.T) {
	s := newSampler(20)
	for range 60 {
		want, f := made(t, some()...)
		x := route.New()
		have := flat(nil)
		for _, y := range s.shuffled(append(some(), f...)) {
			p, link := y.p, 13
			if s.IntN(2) == 0 {
				p = s.prefix()
			}
			if have.has(p) {
				x, have = without(t, x, p), have.without(p)
			} else {
				x, have = with(t, x, p, link), have.with(p, link)
			}
		}
		for _, y := range s.shuffled(have) {
			if !f.has(y.p) || s.IntN(2) == 0 {
				x, have = without(t, x, y.p), have.without(y.p)
			}
		}
		for _, y := range s.shuffled(f) {
			if have.has(y.p) {
				x = without(t, x, y.p)
			}
			x = with(t, x, y.p, y.link)
		}
		wantTable(t, x, f)
		wantAlike(t, x, want)
	}
}

// kept is a table with what it must tell for ever.
type kept struct {
	table *route.Table
	f     flat
}

// P8.6: many tables, each made of one of the elder ones: all of them answer as they did, also behind calls that were refused.
func TestElderTables(t *testing.T) {
	for seed := range uint64(6) {
		s := newSampler(30 + seed)
		all := []kept{{route.New(), nil}}
		for range 150 {
			from := all[s.IntN(len(all))]
			if s.IntN(3) > 0 {
				from = all[len(all)-1]
			}
			all = append(all, next(t, s, from))
		}
		for _, x := range all {
			wantTable(t, x.table, x.f)
		}
	}
}

// next is a table made of another one, by one call behind refused ones.
func next(t *testing.T, s sampler, from kept) kept {
	t.Helper()
	p := s.prefix()
	if len(from.f) > 0 {
		have := from.f[s.IntN(len(from.f))].p
		wantNoWith(t, from.table, have, s.link(), api.ErrRouteTwice)
		wantNoWith(t, from.table, have, 0, api.ErrRouteLink)
		if s.IntN(3) == 0 {
			p = have
		}
	}
	if from.f.has(p) {
		return kept{without(t, from.table, p), from.f.without(p)}
	}
	wantNoWithout(t, from.table, p, api.ErrRouteNone)
	link := s.link()
	return kept{with(t, from.table, p, link), from.f.with(p, link)}
}

// P8.6: two tables made of one do not see one another, nor do two of New.
func TestTablesApart(t *testing.T) {
	p := prefix4(0x0A010000, 16)
	x, f := made(t, some()[:2]...)
	one, two := with(t, x, p, 1), with(t, x, p, 2)
	wantTable(t, one, f.with(p, 1))
	wantTable(t, two, f.with(p, 2))
	wantTable(t, without(t, one, p), f)
	wantTable(t, two, f.with(p, 2))
	wantTable(t, x, f)
	empty, full := route.New(), route.New()
	full = with(t, full, p, 3)
	wantTable(t, empty, nil)
	wantTable(t, full, flat{{p, 3}})
	wantTable(t, route.New(), nil)
}

// small are all prefixes that have the first bits and up to deep bits more.
func small(first string, width, deep int) []api.Prefix {
	out := []api.Prefix{prefixOf(first, width)}
	level := []string{first}
	for range deep {
		var more []string
		for _, x := range level {
			more = append(more, x+"0", x+"1")
		}
		level = more
		for _, x := range level {
			out = append(out, prefixOf(x, width))
		}
	}
	return out
}

// corners are where small trees are set: the first bits, around the half of 128, the last bits, behind zeros and behind ones.
func corners(deep int) []api.Prefix {
	var out []api.Prefix
	for _, width := range widths {
		out = append(out, prefixOf("", width))
		for _, n := range []int{15, width - deep, 62, 63, 64} {
			if n+deep <= width {
				out = append(out, prefixOf(strings.Repeat("1", n), width), prefixOf(strings.Repeat("0", n), width))
			}
		}
	}
	return out
}

// P8.2, P8.3, P8.7: all sets of the prefixes of up to two bits more than some: each call at each set.
func TestAllSmallTables(t *testing.T) {
	const deep = 2
	for _, corner := range corners(deep) {
		list := small(firstBits(corner), widthOf(corner), deep)
		for set := range 1 << len(list) {
			var entries []entry
			for i, p := range list {
				if set>>i&1 == 1 {
					entries = append(entries, entry{p, i + 1})
				}
			}
			x, f := made(t, entries...)
			wantTable(t, x, f)
			for i, p := range list {
				if f.has(p) {
					wantNoWith(t, x, p, i+1, api.ErrRouteTwice)
					wantTable(t, without(t, x, p), f.without(p))
				} else {
					wantNoWithout(t, x, p, api.ErrRouteNone)
					wantTable(t, with(t, x, p, i+1), f.with(p, i+1))
				}
			}
		}
	}
}

// P8.7: all sets of the prefixes of up to three bits more, one made of the other: Find tells what the flat list tells.
func TestFindInAllSmallTables(t *testing.T) {
	const deep = 3
	for _, corner := range corners(deep) {
		list := small(firstBits(corner), widthOf(corner), deep)
		places := around(corner)
		for _, p := range list[len(list)-1<<deep:] {
			places = append(places, p.Addr)
		}
		x, f := route.New(), flat(nil)
		for step := 1; step < 1<<len(list); step++ {
			changed := 0 // as the numbers of Gray go through all sets
			for step>>changed&1 == 0 {
				changed++
			}
			p := list[changed]
			if f.has(p) {
				x, f = without(t, x, p), f.without(p)
			} else {
				x, f = with(t, x, p, changed+1), f.with(p, changed+1)
			}
			for _, a := range places {
				wantFind(t, x, f, a)
			}
		}
	}
}

// P8.7: behind With Find tells the new link of what p holds and no longer prefix holds, and else what it told; Without behind it gives the table back.
func TestWithThenWithout(t *testing.T) {
	s := newSampler(40)
	for range 400 {
		var entries []entry
		have := flat(nil)
		for range s.IntN(30) {
			if y := (entry{s.prefix(), s.link()}); !have.has(y.p) {
				entries, have = append(entries, y), append(have, y)
			}
		}
		x, f := made(t, entries...)
		p := s.prefix()
		if f.has(p) {
			continue
		}
		const link = 77
		more := with(t, x, p, link)
		for _, a := range f.with(p, link).places() {
			want, wantOK := x.Find(a)
			if prefix.Holds(p, a) && !longerHolds(f, p, a) {
				want, wantOK = link, true
			}
			if got, ok := more.Find(a); got != want || ok != wantOK {
				t.Fatalf("behind With(%v) of %v: Find(%v) = %d, %v, want %d, %v", p, f, a, got, ok, want, wantOK)
			}
		}
		back := without(t, more, p)
		wantTable(t, back, f)
		wantAlike(t, back, x)
	}
}

// longerHolds tells whether a prefix of f with more bits than p holds the address.
func longerHolds(f flat, p api.Prefix, a api.Addr) bool {
	return slices.ContainsFunc(f, func(x entry) bool { return x.p.Bits > p.Bits && prefix.Holds(x.p, a) })
}

// Of a great table a new one copies the path to what is new alone.
func TestTablesShare(t *testing.T) {
	x := route.New()
	for i := range uint64(4096) {
		x = with(t, x, prefix4(i<<20, 12), 1)
	}
	for _, call := range []func(){
		func() { x.With(prefix4(0x12345678, 32), 2) },
		func() { x.Without(prefix4(0x12300000, 12)) },
		func() { x.Find(addr4(0x12345678)) },
	} {
		if made := testing.AllocsPerRun(20, call); made > 60 {
			t.Errorf("a call makes %v things", made)
		}
	}
	if n := x.Len(); n != 4096 {
		t.Errorf("Len() = %d", n)
	}
}
