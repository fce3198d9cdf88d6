package table_test

import (
	"bytes"
	"fmt"
	"slices"
	"testing"

	"culvert/api"
	"culvert/table"
)

// P13.7, P13.10: all lists of up to three changes of the small ones, over all small rows: what Get and Sets tell; and Apply of Sets, to the table as it was, makes the rows what Get tells.
func TestChangesOfAllShortLists(t *testing.T) {
	t.Parallel()
	for _, before := range smallRows() {
		lists(small(), 3, func(l []api.Set) {
			x, d := made(t, before...)
			o, c := laid(x, d)
			c = do(t, o, c, l...)
			sets := o.Sets()
			if !same(sets, c.sets()) {
				t.Fatalf("%s, then %s: Sets() = %s, want %s", told(before), told(l), told(sets), told(c.sets()))
			}
			for _, key := range []string{"a", "ab", "b"} {
				want, wantOK := c.now.get(key)
				if value, ok := o.Get([]byte(key)); string(value) != want || ok != wantOK {
					t.Fatalf("%s, then %s: Get(%s) = %q, %v, want %q, %v", told(before), told(l), key, value, ok, want, wantOK)
				}
			}
			if !slices.Equal(rowsOf(x), d.rows()) {
				t.Fatalf("%s, then %s: the table has %q", told(before), told(l), rowsOf(x))
			}
			apply(t, x, sets...)
			if !slices.Equal(rowsOf(x), c.now.rows()) {
				t.Fatalf("%s, then Apply(%s): %q, want %q", told(before), told(sets), rowsOf(x), c.now.rows())
			}
		})
	}
}

// P13.10: from all small rows to all others no list of the small sets that is shorter than Sets leads.
func TestNoShorterList(t *testing.T) {
	t.Parallel()
	longest := 0
	for _, before := range smallRows() {
		shortest := map[string]int{} // by a table's bytes: how many sets lead there
		lists(small(), 3, func(l []api.Set) {
			x, _ := made(t, before...)
			apply(t, x, l...)
			if n, ok := shortest[string(x.Bytes())]; !ok || len(l) < n {
				shortest[string(x.Bytes())] = len(l)
			}
		})
		for _, after := range smallRows() {
			x, d := made(t, before...)
			o, c := laid(x, d)
			c = do(t, o, c, gone("a"), gone("ab"), gone("b"))
			do(t, o, c, after...)
			n, ok := shortest[string(after.bytes())]
			if sets := o.Sets(); !ok || len(sets) != n {
				t.Errorf("from %s to %s: Sets() = %s, and %d are enough", told(before), told(after), told(sets), n)
			}
			longest = max(longest, n)
		}
	}
	if len(smallRows()) != 27 || longest != 3 {
		t.Errorf("%d small tables, up to %d sets: that tries too little", len(smallRows()), longest)
	}
}

// lastOfEach are the last set of each key, in any order.
func lastOfEach(s sampler, l []api.Set) []api.Set {
	var out []api.Set
	for i, x := range l {
		if !slices.ContainsFunc(l[i+1:], func(y api.Set) bool { return string(x.Key) == string(y.Key) }) {
			out = append(out, x)
		}
	}
	s.Shuffle(len(out), func(i, j int) { out[i], out[j] = out[j], out[i] })
	return out
}

// P13.9, P13.10: the last set of each key says all, of a table and of changes, in whatever order.
func TestTheLastOfEachKey(t *testing.T) {
	s := newSampler(5)
	for range 500 {
		before, l := s.sets(s.IntN(12)), s.sets(s.IntN(25))
		last := lastOfEach(s, l)
		x, d := made(t, before...)
		y, _ := made(t, before...)
		one, c := laid(x, d)
		two, _ := laid(y, d)
		do(t, one, c, l...)
		do(t, two, c, last...)
		if a, b := one.Sets(), two.Sets(); !same(a, b) {
			t.Fatalf("Sets() = %s behind all, %s behind the last ones", told(a), told(b))
		}
		wantGets(t, "the last ones", two, c.and(l...).now)
		apply(t, x, l...)
		apply(t, y, last...)
		if !bytes.Equal(x.Bytes(), y.Bytes()) {
			t.Fatalf("Bytes() = %s behind all, %s behind the last ones", briefBytes(x.Bytes()), briefBytes(y.Bytes()))
		}
	}
}

// P13.9: there and back, of sets and of bytes.
func TestThereAndBack(t *testing.T) {
	s := newSampler(6)
	for range 3000 {
		l := s.rising(s.IntN(10))
		b, e := table.PutSets(l)
		wantErr(t, "PutSets", e, api.OK)
		back, e := table.GetSets(b)
		if e != api.OK || !same(back, l) {
			t.Fatalf("GetSets(PutSets(%s)) = %s, %d", told(l), told(back), e)
		}
		again, e := table.PutSets(back)
		if e != api.OK || !bytes.Equal(again, b) {
			t.Fatalf("PutSets(GetSets(%s)) = %s, %d", briefBytes(b), briefBytes(again), e)
		}
	}
}

// P13.9: what GetSets takes is PutSets of what it answers, and what FromBytes takes is Bytes of it, whatever the bytes are.
func TestBackAndThere(t *testing.T) {
	s := newSampler(7)
	taken := 0
	for range 20000 {
		b, _ := plainPut(s.rising(1 + s.IntN(3)))
		b = slices.Clone(b)
		b[s.IntN(len(b))] = byte(s.IntN(4))
		if l, e := table.GetSets(b); e == api.OK {
			taken++
			if again, e := table.PutSets(l); e != api.OK || !bytes.Equal(again, b) {
				t.Fatalf("PutSets(GetSets(%s)) = %s, %d", briefBytes(b), briefBytes(again), e)
			}
		}
		if x, e := table.FromBytes(b); e == api.OK && !bytes.Equal(x.Bytes(), b) {
			t.Fatalf("FromBytes(%s).Bytes() = %s", briefBytes(b), briefBytes(x.Bytes()))
		}
	}
	if taken < 1000 || taken > 19000 {
		t.Errorf("%d of the bytes were taken: that tries too little", taken)
	}
}

// P13.9: the rows of a table are what the last set of each key says, however the sets are parted into lists; and its bytes make it anew.
func TestFold(t *testing.T) {
	s := newSampler(8)
	for range 300 {
		l := s.sets(s.IntN(40))
		x := table.New()
		for rest := l; len(rest) > 0; {
			n := 1 + s.IntN(len(rest))
			apply(t, x, rest[:n]...)
			rest = rest[n:]
			if s.IntN(3) == 0 {
				x = back(t, x)
			}
		}
		wantTable(t, "a fold", x, l)
		wantTable(t, "a fold, there and back", back(t, x), l)
	}
}

// P13.10: sampled changes: Apply of Sets, to the table as it was and to one made of its bytes, makes the rows what Get tells.
func TestApplyOfSets(t *testing.T) {
	s := newSampler(9)
	for range 500 {
		before := s.sets(s.IntN(20))
		x, d := made(t, before...)
		y := back(t, x)
		o, c := laid(x, d)
		c = do(t, o, c, s.sets(s.IntN(20))...)
		sets := o.Sets()
		apply(t, x, sets...)
		wantTable(t, "Apply of Sets", x, c.now)
		b, e := table.PutSets(sets)
		wantErr(t, "PutSets of Sets", e, api.OK)
		read, e := table.GetSets(b)
		wantErr(t, "GetSets of them", e, api.OK)
		apply(t, y, read...)
		wantTable(t, "Apply of Sets that were bytes", y, c.now)
		if !bytes.Equal(x.Bytes(), y.Bytes()) {
			t.Fatalf("two tables of the same rows have unlike bytes")
		}
		wantOver(t, "behind Apply of Sets", o, c)
	}
}

// play is some tables and some changes over them, with what was done to each.
type play struct {
	tables []*table.Table
	dones  []done
	overs  []*table.Over
	laid   []changes
	wrong  []api.Set
}

func newPlay() *play {
	p := &play{wrong: noSets()}
	for range 3 {
		p.tables, p.dones = append(p.tables, table.New()), append(p.dones, nil)
		p.overs, p.laid = append(p.overs, table.New().Over()), append(p.laid, changes{})
	}
	return p
}

// step does one call, to any of them.
func (p *play) step(t *testing.T, s sampler) string {
	t.Helper()
	i, j := s.IntN(len(p.tables)), s.IntN(len(p.overs))
	switch s.IntN(12) {
	case 0, 1, 2:
		l := s.sets(s.IntN(4))
		apply(t, p.tables[i], l...)
		p.dones[i] = p.dones[i].and(l...)
		return fmt.Sprintf("%d.Apply(%s)", i, told(l))
	case 3:
		l := slices.Insert(s.sets(3), s.IntN(4), s.oneOf(p.wrong))
		wantErr(t, "Apply("+told(l)+")", p.tables[i].Apply(l), api.ErrRow)
		return fmt.Sprintf("%d.Apply(%s), refused", i, told(l))
	case 4:
		p.tables[i] = back(t, p.tables[i])
		return fmt.Sprintf("%d there and back", i)
	case 5:
		p.overs[j], p.laid[j] = laid(p.tables[i], p.dones[i])
		return fmt.Sprintf("%d.Over()", i)
	case 6:
		sets := p.overs[j].Sets()
		x, d := made(t, p.laid[j].before...)
		apply(t, x, sets...)
		p.tables[i], p.dones[i] = x, d.and(sets...)
		return fmt.Sprintf("Apply(%s), to the table as it was", told(sets))
	case 7:
		wrong := s.oneOf(p.wrong)
		if wrong.Gone {
			wrong.Key = nil
		}
		wantErr(t, "Set("+told([]api.Set{wrong})+")", p.overs[j].Set(wrong.Key, wrong.Value), api.ErrRow)
		return fmt.Sprintf("Set(%s), refused", told([]api.Set{wrong}))
	}
	one := s.set()
	p.laid[j] = do(t, p.overs[j], p.laid[j], one)
	return fmt.Sprintf("over %d: %s", j, told([]api.Set{one}))
}

// want: each of them tells what was done to it, and nothing else.
func (p *play) want(t *testing.T, what string) {
	t.Helper()
	for i := range p.tables {
		wantTable(t, what, p.tables[i], p.dones[i])
	}
	for j := range p.overs {
		wantOver(t, what, p.overs[j], p.laid[j])
	}
}

// P13.1 to P13.10: long plays of any calls, three tables and three changes side by side; all that each tells is looked at behind each step.
func TestLongPlays(t *testing.T) {
	for seed := range uint64(20) {
		t.Run(fmt.Sprint(seed), func(t *testing.T) {
			t.Parallel()
			s := newSampler(100 + seed)
			p := newPlay()
			for n := range 150 {
				p.want(t, fmt.Sprintf("behind %d steps, the last one %s", n+1, p.step(t, s)))
			}
		})
	}
}
