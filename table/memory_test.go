package table_test

import (
	"bytes"
	"fmt"
	"slices"
	"testing"
	"unsafe"

	"culvert/api"
	"culvert/table"
)

// room is a list in the middle of a longer one, whose bytes ahead and behind are watched too.
type room struct{ all, was, list []byte }

func newRoom(list string) *room {
	const wide = 60
	around := bytes.Repeat([]byte{0x77}, wide)
	all := slices.Concat(around, []byte(list), around)
	return &room{all, bytes.Clone(all), all[wide : wide+len(list)]}
}

func (r *room) wantUnchanged(t *testing.T, what string) {
	t.Helper()
	if !bytes.Equal(r.all, r.was) {
		t.Errorf("%s has changed its list, or what lies around it", what)
	}
}

// writeOver makes all of it, what lies around too, something else.
func (r *room) writeOver() {
	for i := range r.all {
		r.all[i] ^= 0x5A
	}
	copy(r.was, r.all)
}

// setsRoom is a list of sets in the middle of a longer one, each key and value of it in a room.
type setsRoom struct {
	rooms          []*room
	all, was, list []api.Set
}

func newSetsRoom(l []api.Set) *setsRoom {
	const wide = 5
	r := &setsRoom{}
	roomy := func(b []byte) []byte {
		x := newRoom(string(b))
		r.rooms = append(r.rooms, x)
		return x.list
	}
	for i := range wide + len(l) + wide {
		s := set("around", "list")
		if i >= wide && i < wide+len(l) {
			s = l[i-wide]
		}
		r.all = append(r.all, api.Set{Key: roomy(s.Key), Value: roomy(s.Value), Gone: s.Gone})
	}
	r.was, r.list = slices.Clone(r.all), r.all[wide:wide+len(l)]
	return r
}

// sameList: it lies where it lay, and is as long, spare room too.
func sameList(a, b []byte) bool {
	return len(a) == len(b) && cap(a) == cap(b) && unsafe.SliceData(a) == unsafe.SliceData(b)
}

func (r *setsRoom) wantUnchanged(t *testing.T, what string) {
	t.Helper()
	for i, s := range r.all {
		if was := r.was[i]; !sameList(s.Key, was.Key) || !sameList(s.Value, was.Value) || s.Gone != was.Gone {
			t.Errorf("%s has changed the list of sets, or what lies around it, at %d", what, i)
		}
	}
	for _, x := range r.rooms {
		x.wantUnchanged(t, what)
	}
}

func (r *setsRoom) writeOver() {
	for _, x := range r.rooms {
		x.writeOver()
	}
	for i := range r.all {
		r.all[i] = set("other", "one")
	}
	copy(r.was, r.all)
}

// spoil writes over all that a caller may write over, the spare room too.
func spoil(b []byte) {
	b = b[:cap(b)]
	for i := range b {
		b[i] ^= 0xA5
	}
}

func spoilSets(l []api.Set) {
	for _, s := range l {
		spoil(s.Key)
		spoil(s.Value)
	}
	spoilList(l)
}

// spoilList puts other sets into a list, and leaves the bytes of those that were there alone.
func spoilList(l []api.Set) {
	l = l[:cap(l)]
	for i := range l {
		l[i] = set("spoilt", "one")
	}
}

// P13.8: what Apply and PutSets are handed is as it was, its spare room too, whether they take it or not, and is not kept: written over behind the call, it changes nothing.
func TestSetsHandedIn(t *testing.T) {
	lists := [][]api.Set{nil, some(), edgeRows(), {gone("a"), set("a", ""), set("a", "1")}, {set("b", "2"), set("a", "1")}}
	for _, wrong := range noSets() {
		lists = append(lists, slices.Concat(some()[:3], []api.Set{wrong}, some()[3:]))
	}
	for _, l := range lists {
		r := newSetsRoom(l)
		x, d := made(t, set("a", "old"), set("z", "old"))
		if x.Apply(r.list) == api.OK {
			d = d.and(l...)
		}
		r.wantUnchanged(t, "Apply")
		o, c := laid(x, d)
		b, e := table.PutSets(r.list)
		r.wantUnchanged(t, "PutSets")
		want, ok := plainPut(l)
		r.writeOver()
		wantTable(t, "the list written over", x, d)
		wantOver(t, "the list written over", o, c)
		if !bytes.Equal(b, want) || ok != (e == api.OK) {
			t.Errorf("the bytes of PutSets are others behind a list that was written over")
		}
		apply(t, x, set("a", "new"), gone("z"), set("c", "new"))
		do(t, o, c, set("a", "new"), gone("z"))
		spoil(b)
		r.wantUnchanged(t, "what was made of it")
	}
}

// P13.8: the bytes that GetSets and FromBytes are handed are as they were, and not kept.
func TestBytesHandedIn(t *testing.T) {
	all := [][]byte{nil, {1}, {2, 1, 0, 0, 'a'}, {0, 1, 0, 0, 'a'}}
	for _, l := range [][]api.Set{some(), edgeRows(), {set("a", "1")}, {set("a", ""), set("b", counted(1, 480))}} {
		var b []byte
		for _, s := range l {
			b = append(b, plainSet(s)...)
		}
		all = append(all, b, b[:len(b)-1])
	}
	for _, b := range all {
		r := newRoom(string(b))
		l, _ := table.GetSets(r.list)
		r.wantUnchanged(t, "GetSets")
		x, e := table.FromBytes(r.list)
		r.wantUnchanged(t, "FromBytes")
		r.writeOver()
		want, _ := plainGet(b)
		if !same(l, want) {
			t.Errorf("the sets of GetSets are others behind bytes that were written over")
		}
		spoilSets(l)
		r.wantUnchanged(t, "what was made of its sets")
		if e == api.OK {
			d, _ := plainFrom(b)
			wantTable(t, "bytes written over", x, d)
			apply(t, x, set("a", "new"), gone("b"))
			r.wantUnchanged(t, "what was made of its table")
		}
	}
}

// P13.8: the keys and values that Get, Set and Delete are handed are as they were, and not kept.
func TestKeysHandedIn(t *testing.T) {
	for _, key := range append(edgeKeys(), noKeys()[:5]...) {
		for _, value := range []string{"", "v", counted(1, 480), counted(1, 481)} {
			x, d := made(t, edgeRows()...)
			o, c := laid(x, d)
			k, v := newRoom(key), newRoom(value)
			x.Get(k.list)
			o.Get(k.list)
			o.Delete(k.list)
			k.wantUnchanged(t, "Get or Delete")
			c = c.and(gone(key))
			if o.Set(k.list, v.list) == api.OK {
				c = c.and(set(key, value))
			}
			k.wantUnchanged(t, "Set")
			v.wantUnchanged(t, "Set")
			k.writeOver()
			v.writeOver()
			wantOver(t, "key and value written over", o, c)
			wantTable(t, "key and value written over", x, d)
			spoilSets(o.Sets())
			o.Set([]byte(key), []byte("w"))
			o.Delete([]byte(key))
			k.wantUnchanged(t, "what was done behind it")
			v.wantUnchanged(t, "what was done behind it")
		}
	}
}

// P13.8: one list may be handed in again and again, changed by its owner in between; also as the key and the value of one set.
func TestOneListForAll(t *testing.T) {
	b := make([]byte, 40)
	x, d := made(t)
	o, c := laid(x, d)
	l := make([]api.Set, 1)
	for i := range 30 {
		copy(b, counted(i*11, 40))
		l[0] = api.Set{Key: b[:1+i], Value: b[i/2:]}
		want := set(string(l[0].Key), string(l[0].Value))
		wantErr(t, "Apply", x.Apply(l), api.OK)
		wantErr(t, "Set", o.Set(l[0].Key, l[0].Value), api.OK)
		d, c = d.and(want), c.and(want)
	}
	clear(b)
	wantTable(t, "one list for all", x, d)
	wantOver(t, "one list for all", o, c)
}

// subject is a table with changes over it, and what was done to them.
func subject(t *testing.T) (*table.Table, done, *table.Over, changes) {
	t.Helper()
	x, d := made(t, set("a", "1"), set("ab", ""), set("b", "1"), set("c", counted(3, 480)), set(counted(7, 40), "1"), set("z", "0123456"))
	o, c := laid(x, d)
	return x, d, o, do(t, o, c, gone("a"), set("b", "12"), set("c", counted(4, 479)), set("new", "1"), set("x", ""), set(counted(8, 40), counted(3, 100)))
}

// answer is lists of bytes and lists of sets that were handed out.
type answer struct {
	bytes [][]byte
	sets  [][]api.Set
}

func (a *answer) add(l []api.Set) {
	a.sets = append(a.sets, l)
	for _, s := range l {
		a.bytes = append(a.bytes, s.Key, s.Value)
	}
}

// answers are all that a table and changes over it hand out, and what is made of that.
func answers(x *table.Table, o *table.Over) answer {
	var a answer
	for _, key := range []string{"a", "ab", "b", "c", "z", "new", "none"} {
		one, _ := x.Get([]byte(key))
		two, _ := o.Get([]byte(key))
		a.bytes = append(a.bytes, one, two)
	}
	for key, value := range x.All() {
		a.bytes = append(a.bytes, key, value)
	}
	whole := x.Bytes()
	put, _ := table.PutSets(o.Sets())
	a.bytes = append(a.bytes, whole, put)
	a.add(o.Sets())
	rows, _ := table.GetSets(whole)
	a.add(rows)
	got, _ := table.GetSets(put)
	a.add(got)
	return a
}

func (a answer) clone() answer {
	var out answer
	for _, b := range a.bytes {
		out.bytes = append(out.bytes, bytes.Clone(b))
	}
	for _, l := range a.sets {
		out.sets = append(out.sets, cloned(l))
	}
	return out
}

func wantAnswer(t *testing.T, what string, got, want answer) {
	t.Helper()
	if len(got.bytes) < 50 || len(got.bytes) != len(want.bytes) || len(got.sets) != len(want.sets) {
		t.Fatalf("%s: %d and %d lists", what, len(got.bytes), len(want.bytes))
	}
	for i := range got.bytes {
		if !bytes.Equal(got.bytes[i], want.bytes[i]) {
			t.Errorf("%s: the list %d is %s, want %s", what, i, briefBytes(got.bytes[i]), briefBytes(want.bytes[i]))
		}
	}
	for i := range got.sets {
		if !same(got.sets[i], want.sets[i]) {
			t.Errorf("%s: the sets %d are %s, want %s", what, i, told(got.sets[i]), told(want.sets[i]))
		}
	}
}

// P13.8: what is answered is written over, its spare room too, without a change of the table or the changes, or of what is answered next.
func TestAnswersWrittenOver(t *testing.T) {
	x, d, o, c := subject(t)
	want := answers(x, o).clone()
	for range 3 {
		a := answers(x, o)
		wantAnswer(t, "asked again", a, want)
		for _, b := range a.bytes {
			spoil(b)
		}
		for _, l := range a.sets {
			spoilList(l)
		}
		wantTable(t, "answers written over", x, d)
		wantOver(t, "answers written over", o, c)
	}
}

// P13.8: no two lists share anything, of one answer or of two, spare room too.
func TestAnswersApart(t *testing.T) {
	x, _, o, _ := subject(t)
	all := append(answers(x, o).bytes, answers(x, o).bytes...)
	if len(all) > 256 {
		t.Fatalf("%d lists: too many to be marked", len(all))
	}
	for k, b := range all {
		b = b[:cap(b)]
		for i := range b {
			b[i] = byte(k)
		}
	}
	for k, b := range all {
		if whole := b[:cap(b)]; bytes.Count(whole, []byte{byte(k)}) != len(whole) {
			t.Errorf("the list %d shows what was written into another one", k)
		}
	}
}

// P13.8: what is answered is grown without a change of anything else; the lists of sets too.
func TestAnswersGrown(t *testing.T) {
	x, d, o, c := subject(t)
	one, two := answers(x, o), answers(x, o)
	want := two.clone()
	for range 600 { // one by one, so that the spare room is used where there is some
		for i := range one.bytes {
			one.bytes[i] = append(one.bytes[i], 0x66)
		}
		for i := range one.sets {
			one.sets[i] = append(one.sets[i], set("more", "m"))
		}
	}
	wantAnswer(t, "another one grown", two, want)
	for i := range one.bytes {
		if b := one.bytes[i]; !bytes.Equal(b, append(want.bytes[i], bytes.Repeat([]byte{0x66}, 600)...)) {
			t.Errorf("the list %d, grown, is %s", i, briefBytes(b))
		}
	}
	for i := range one.sets {
		if n := len(want.sets[i]); !same(one.sets[i][:n], want.sets[i]) || len(one.sets[i]) != n+600 {
			t.Errorf("the sets %d, grown, are %s", i, told(one.sets[i]))
		}
	}
	wantTable(t, "answers grown", x, d)
	wantOver(t, "answers grown", o, c)
}

// P13.8: an elder answer stays as it was, whatever is done to the table and the changes.
func TestElderAnswers(t *testing.T) {
	x, _, o, _ := subject(t)
	a := answers(x, o)
	want := a.clone()
	for round := range 3 {
		for _, s := range slices.Concat(edgeRows(), some(), []api.Set{set("c", "3"), set("z", counted(round, 7)), set("b", "3"), set("new", "4")}) {
			apply(t, x, api.Set{Key: s.Key, Gone: true}, set(string(s.Key), counted(round, 7)))
			o.Set(s.Key, []byte(counted(round, 7)))
			o.Delete(s.Key)
			o.Set(s.Key, []byte(counted(round, 8)))
		}
		wantAnswer(t, "an elder answer", a, want)
	}
}

// P13.3, P13.8: what All gives is written over and grown while it goes on: neither the table nor what it gives next, nor what it gives when it is gone through again, shows it.
func TestAllGivesNewMemory(t *testing.T) {
	x, d, o, c := subject(t)
	all := x.All()
	for range 3 {
		var got []row
		var keys, values [][]byte
		for key, value := range all {
			got = append(got, row{string(key), string(value)})
			keys, values = append(keys, key), append(values, value)
			spoil(key)
			spoil(value)
			for range 50 {
				key, value = append(key, 0x66), append(value, 0x66)
			}
			wantTable(t, "within", x, d)
		}
		if !slices.Equal(got, d.rows()) {
			t.Errorf("All() goes over %.300q", got)
		}
		for i, r := range got { // nothing that was given later has gone into what was given ahead
			key, value := []byte(r.key), []byte(r.value)
			spoil(key)
			spoil(value)
			if !bytes.Equal(keys[i], key) || !bytes.Equal(values[i], value) {
				t.Errorf("the row %d, written over, is %q, %q by now", i, keys[i], values[i])
			}
		}
	}
	wantOver(t, "All written over", o, c)
}

// P13.8: what is answered may be handed in again, to the same one and to others, and written over behind that.
func TestAnswersHandedIn(t *testing.T) {
	x, d, o, c := subject(t)
	value, _ := x.Get([]byte("z"))
	wantErr(t, "Set", o.Set([]byte("z1"), value), api.OK)
	c = c.and(set("z1", "0123456"))
	sets := o.Sets()
	b, _ := table.PutSets(sets)
	read, _ := table.GetSets(b)
	y := back(t, x)
	wantErr(t, "Apply", y.Apply(sets), api.OK)
	z := back(t, x)
	wantErr(t, "Apply", z.Apply(read), api.OK)
	for key, value := range x.All() {
		z.Apply([]api.Set{{Key: value, Value: key}})
		spoil(key)
		spoil(value)
	}
	spoil(value)
	spoil(b)
	spoilSets(sets)
	spoilSets(read)
	wantTable(t, "answers handed in", x, d)
	wantOver(t, "answers handed in", o, c)
	wantTable(t, "Sets handed in", y, c.now)
	wantTable(t, "all rows turned", z, c.now.and(turned(d)...))
}

// turned are the rows with keys and values changed for one another, where that may be.
func turned(d done) []api.Set {
	var out []api.Set
	for _, r := range d.rows() {
		if s := set(r.value, r.key); plainMayBe(s) {
			out = append(out, s)
		}
	}
	return out
}

// course is a course of calls on tables and changes of its own, a call at a time, with what each has told.
func course(t *testing.T, seed uint64) func() string {
	s := newSampler(seed)
	p := newPlay()
	return func() string {
		text := p.step(t, s)
		for i := range p.tables {
			text += fmt.Sprintf(" %d %x", p.tables[i].Len(), p.tables[i].Bytes())
		}
		for i := range p.overs {
			text += " " + told(p.overs[i].Sets())
		}
		return text
	}
}

// P0.4, P13.8: courses that are gone by turns tell what each tells by itself.
func TestCoursesByTurns(t *testing.T) {
	const calls = 150
	var alone [3][]string
	for i := range alone {
		next := course(t, uint64(20+i))
		for range calls {
			alone[i] = append(alone[i], next())
		}
	}
	var next [3]func() string
	for i := range next {
		next[i] = course(t, uint64(20+i))
	}
	for k := range calls {
		for i := range next {
			if got := next[i](); got != alone[i][k] {
				t.Fatalf("the course %d, by turns, tells at %d: %s, want %s", i, k, got, alone[i][k])
			}
		}
	}
	if slices.Equal(alone[0], alone[1]) {
		t.Errorf("two courses are the same: that tries too little")
	}
}
