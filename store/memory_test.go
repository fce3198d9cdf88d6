package store_test

import (
	"bytes"
	"fmt"
	"slices"
	"testing"
	"unsafe"

	"culvert/api"
	"culvert/disk"
	"culvert/store"
)

// room is a list in the middle of a longer one, whose bytes ahead and behind are watched too.
type room struct{ all, was, list []byte }

func newRoom(list []byte) *room {
	const wide = 600
	around := bytes.Repeat([]byte{0x77}, wide)
	all := slices.Concat(around, list, around)
	return &room{all, bytes.Clone(all), all[wide : wide+len(list)]}
}

func (r *room) wantUnchanged(t *testing.T, what string) {
	t.Helper()
	if !bytes.Equal(r.all, r.was) {
		t.Errorf("%s has changed its list, or what lies around it", what)
	}
}

// writeOver makes all of it, what lies around too, something else.
func (r *room) writeOver() {
	for i := range r.all {
		r.all[i] ^= 0x5A
	}
}

// setsRoom is a list of sets in the middle of a longer one, the keys and values of all of them in rooms.
type setsRoom struct {
	all, was, list []api.Set
	rooms          []*room
}

func newSetsRoom(l []api.Set) *setsRoom {
	r := &setsRoom{}
	for _, s := range slices.Concat(sets(set("ahead", "1"), gone("ahead")), l, sets(set("behind", "1"), gone("a"), set("", ""))) {
		key, value := newRoom(s.Key), newRoom(s.Value)
		r.rooms = append(r.rooms, key, value)
		r.all = append(r.all, api.Set{Key: key.list, Value: value.list, Gone: s.Gone})
	}
	r.was = slices.Clone(r.all)
	r.list = r.all[2 : 2+len(l)]
	return r
}

// sameList: it lies where it lay, and is as long, spare room too.
func sameList(a, b []byte) bool {
	return len(a) == len(b) && cap(a) == cap(b) && unsafe.SliceData(a) == unsafe.SliceData(b)
}

func (r *setsRoom) wantUnchanged(t *testing.T, what string) {
	t.Helper()
	for i, s := range r.all {
		if was := r.was[i]; !sameList(s.Key, was.Key) || !sameList(s.Value, was.Value) || s.Gone != was.Gone {
			t.Errorf("%s has changed the list of sets, or what lies around it, at %d", what, i)
		}
	}
	for _, x := range r.rooms {
		x.wantUnchanged(t, what)
	}
}

func (r *setsRoom) writeOver() {
	for _, x := range r.rooms {
		x.writeOver()
	}
	for i := range r.all {
		r.all[i] = set("other", "one")
	}
}

// someLists are lists that change something, at a store that has room and at one that has none.
func someLists() [][]api.Set {
	return [][]api.Set{
		nil,
		sets(set("b", "2"), gone("a"), set("b", "3"), set("", "")),
		sets(set("b", "2"), gone("a"), set("b", "3")),
		sets(set("a", "1")),
		sets(set("b", great(1)), set("a", ""), gone("c")),
		sets(set("c", great(1)), set("b", great(2))),
		changed(1900),
		changed(1921),
		changed(4801),
	}
}

// P14.8: what Fits and Commit are handed is as it was, its spare room too, and is not kept: written over behind the call, it changes nothing of what the store tells, nor on the device, nor what a later checkpoint says.
func TestSetsHandedIn(t *testing.T) {
	for _, c := range []seat{at("room", 32, 2, 5, rows{"a": "1"}), at("none", 32, 2, 5, rows{"a": "1"}, append(flips(13), sets(gone("flip")))...)} {
		for _, l := range someLists() {
			what := c.what + told(l)
			d, s := over(t, c.m)()
			r, q := newSetsRoom(l), newSetsRoom(l)
			want := c.p.commit(l)
			wantErr(t, what+": Fits", s.Fits(r.list), want.err)
			r.wantUnchanged(t, what+": Fits")
			r.writeOver()
			wantStore(t, what+": Fits, the list written over", d, s, c.p)
			wantErr(t, what+": Commit", s.Commit(q.list), want.err)
			q.wantUnchanged(t, what+": Commit")
			was := standOf(d)
			q.writeOver()
			wantStand(t, what+": the list written over", d, was)
			wantStore(t, what+": the list written over", d, s, want.store)
			p := want.store
			for i := range 30 { // over a checkpoint, which says what the store has kept
				l := sets(set("flip", fmt.Sprint(i)))
				p = p.commit(l).store
				s.Commit(l)
			}
			wantStore(t, what+": and on", d, s, p)
			wantStore(t, what+": and on, found", d, open(t, d), p)
			if p.epoch == c.p.epoch && p.fits(p.rows.after(sets(set("flip", "1")))) {
				t.Errorf("%s: no checkpoint", what)
			}
		}
	}
}

// P14.8: the same where the device refuses an operation: what pends is not the caller's memory.
func TestSetsHandedInAndRefused(t *testing.T) {
	for _, c := range []seat{at("room", 32, 2, 5, rows{"a": "1"}), at("none", 32, 2, 5, rows{"a": "1"}, flips(14)...)} {
		for _, l := range someLists() {
			for k := 1; k <= len(c.p.commit(l).ops); k++ {
				d, s := over(t, c.m)()
				r := newSetsRoom(l)
				arm(t, d, fault(k, io))
				wantErr(t, "Commit", s.Commit(r.list), api.ErrIO)
				r.wantUnchanged(t, "Commit")
				was := standOf(d)
				r.writeOver()
				wantStand(t, fmt.Sprintf("%s, %s, refused at %d, the list written over", c.what, told(l), k), d, was)
				wantEnded(t, "the list written over", d, s)
			}
		}
	}
}

// P14.8: what an ended store is handed.
func TestHandedToAnEndedStore(t *testing.T) {
	d, s := over(t, logged(32, 1, 1, nil))()
	d.Claim()
	for _, l := range someLists() {
		r := newSetsRoom(l)
		s.Fits(r.list)
		s.Commit(r.list)
		r.wantUnchanged(t, "an ended store")
	}
}

// P14.8: the key that Get is handed.
func TestKeyHandedIn(t *testing.T) {
	m, p := stands(32, 2, 5, rows{"a": "1", "b": great(1)})
	d, s := over(t, m)()
	for _, key := range append(otherKeys(), p.rows.keys()...) {
		r := newRoom([]byte(key))
		value, ok := s.Get(r.list)
		r.wantUnchanged(t, "Get")
		r.writeOver()
		if want, there := p.rows[key]; string(value) != want || ok != there {
			t.Errorf("Get(%s) = %s, %v", brief(key), brief(string(value)), ok)
		}
	}
	wantStore(t, "keys written over", d, s, p)
}

// P14.8: one list may be handed in again and again, changed by its owner in between.
func TestOneListForAll(t *testing.T) {
	d := formatted(t, 32)
	s := open(t, d)
	p := plain{32, 1, 1, 0, rows{}}
	key, value := make([]byte, 2), make([]byte, 30)
	l := sets(api.Set{Key: key, Value: value}, gone("flip"))
	for i := range 40 {
		copy(key, fmt.Sprintf("%02d", i))
		copy(value, counted(i, 3, 30))
		p = p.commit(l).store
		wantErr(t, "Commit", s.Commit(l), api.OK)
	}
	clear(key)
	clear(value)
	wantStore(t, "one list for all", d, s, p)
	wantStore(t, "one list for all, found", d, open(t, d), p)
	if p.epoch < 3 || len(p.rows) != 40 {
		t.Errorf("%d rows, %d epochs: that tries too little", len(p.rows), p.epoch)
	}
}

// answers are all lists of bytes that a store hands out when it is asked all, and its list of rows.
func answers(s *store.Store) ([][]byte, []api.Row) {
	var lists [][]byte
	l := s.Rows()
	for _, r := range l {
		value, _ := s.Get(r.Key)
		lists = append(lists, r.Key, r.Value, value)
	}
	return lists, l
}

func texts(l [][]byte) []string {
	var out []string
	for _, b := range l {
		out = append(out, string(b))
	}
	return out
}

// several is a store with rows of all kinds, from a checkpoint, from a transaction that an Open has found, and from commits.
func several(t *testing.T) (*disk.Disk, *store.Store, plain) {
	t.Helper()
	m, p := stands(36, 2, 5, rows{"a": "1", "ab": "", "b": great(1)}, sets(set("c", "3"), set("d", counted(4, 1, 33))))
	d, s := over(t, m)()
	for _, l := range [][]api.Set{sets(set("e", counted(5, 1, 8)), gone("c")), sets(set("f", "f"), set("b", great(2)))} {
		wantErr(t, "Commit", s.Commit(l), api.OK)
		p = p.commit(l).store
	}
	return d, s, p
}

// P14.8: what is answered is written over, its spare room too, without a change of the store, of the device, or of what is answered next.
func TestAnswersWrittenOver(t *testing.T) {
	d, s, p := several(t)
	for i := range 25 {
		lists, l := answers(s)
		was := standOf(d)
		for _, b := range lists {
			b = b[:cap(b)]
			for i := range b {
				b[i] = 0xA5
			}
		}
		l = l[:cap(l)]
		for i := range l {
			l[i] = api.Row{Key: []byte("spoilt")}
		}
		wantStand(t, "answers written over", d, was)
		wantStore(t, "answers written over", d, s, p)
		change := sets(set("flip", fmt.Sprint(i)))
		wantErr(t, "Commit", s.Commit(change), api.OK)
		p = p.commit(change).store
	}
	if p.epoch == 2 {
		t.Errorf("no checkpoint: that tries too little")
	}
	wantStore(t, "answers written over, found", d, open(t, d), p)
}

// P14.8: no two lists share anything, of one answer or of two, spare room too.
func TestAnswersApart(t *testing.T) {
	_, s, _ := several(t)
	one, _ := answers(s)
	two, _ := answers(s)
	all := append(one, two...)
	for k, b := range all {
		b = b[:cap(b)]
		for i := range b {
			b[i] = byte(k)
		}
	}
	for k, b := range all {
		if whole := b[:cap(b)]; bytes.Count(whole, []byte{byte(k)}) != len(whole) {
			t.Errorf("the answer %d shows what was written into another one", k)
		}
	}
}

// P14.8: what is answered is grown without a change of anything else; the list of rows too.
func TestAnswersGrown(t *testing.T) {
	d, s, p := several(t)
	one, l := answers(s)
	two, m := answers(s)
	want := texts(two)
	for range 1000 { // one by one, so that the spare room is used where there is some
		for i := range one {
			one[i] = append(one[i], 0x66)
		}
		l = append(l, api.Row{Key: []byte("more")})
	}
	for i := range one {
		if string(two[i]) != want[i] || string(one[i]) != want[i]+string(bytes.Repeat([]byte{0x66}, 1000)) {
			t.Errorf("the answer %d, grown, is changed, or has changed another one", i)
		}
	}
	if len(m) != len(p.rows) || len(l) != len(m)+1000 || string(m[0].Key) != "a" {
		t.Errorf("the list of rows, grown, has changed another one")
	}
	wantStore(t, "answers grown", d, s, p)
}

// P14.8: an elder answer stays as it was, whatever the store and the device do.
func TestElderAnswers(t *testing.T) {
	d, s, p := several(t)
	lists, _ := answers(s)
	want := texts(lists)
	for i := range 30 {
		wantErr(t, "Commit", s.Commit(sets(set("a", fmt.Sprint(i)), set("b", great(i)))), api.OK)
	}
	wantErr(t, "Commit", s.Commit(p.rows.allGone()), api.OK)
	for i := range d.Sectors() {
		d.Write(i, make([]byte, size))
	}
	d.Flush()
	if !slices.Equal(texts(lists), want) {
		t.Errorf("an elder answer has changed")
	}
}

// P14.8: what is answered may be handed in again, and written over behind that.
func TestAnswersHandedIn(t *testing.T) {
	d, s, p := several(t)
	lists, l := answers(s)
	back := sets(api.Set{Key: l[1].Key, Value: l[2].Value}, api.Set{Key: l[0].Value, Value: l[1].Key}, api.Set{Key: l[0].Key, Gone: true})
	want := p.commit(back).store
	wantErr(t, "Commit", s.Commit(back), api.OK)
	for _, b := range lists {
		for i := range b {
			b[i] = 0x33
		}
	}
	wantStore(t, "answers handed in", d, s, want)
	wantStore(t, "answers handed in, found", d, open(t, d), want)
}

// course is a course of calls on one device, a call at a time, with what each has told.
func course(t *testing.T, seed uint64, n int) func() string {
	s := newSampler(seed)
	d := formatted(t, n)
	st := open(t, d)
	return func() string {
		l := s.list(5)
		answer := ""
		switch s.IntN(8) {
		case 0:
			d.Arm([]api.Fault{fault(1+s.IntN(5), io)})
			answer = fmt.Sprint(st.Commit(l))
		case 1, 2:
			d.Arm(nil)
			st = open(t, d)
		default:
			answer = fmt.Sprint(st.Fits(l), st.Commit(l))
		}
		lists, _ := answers(st)
		epoch, seq, place := st.State()
		return fmt.Sprint(answer, texts(lists), epoch, seq, place, st.Ended(), standOf(d).String())
	}
}

// P0.4, P14.8: stores over two devices and a third, asked in turns, tell what each tells by itself.
func TestTwoDevices(t *testing.T) {
	const calls = 150
	var alone [3][]string
	for i := range alone {
		next := course(t, uint64(20+i), 32+i)
		for range calls {
			alone[i] = append(alone[i], next())
		}
	}
	var next [3]func() string
	for i := range next {
		next[i] = course(t, uint64(20+i), 32+i)
	}
	for k := range calls {
		for i := range next {
			if got := next[i](); got != alone[i][k] {
				t.Fatalf("the store %d, in turns, tells at %d: %s, want %s", i, k, got, alone[i][k])
			}
		}
	}
	if slices.Equal(alone[0], alone[1]) {
		t.Errorf("two courses are the same: that tries too little")
	}
}
