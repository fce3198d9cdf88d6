package store_test

import (
	"testing"

	"culvert/api"
	"culvert/disk"
	"culvert/store"
	"culvert/wal"
)

// claims are all that takes the claim of a device away from a store.
func claims(t *testing.T) map[string]func(d *disk.Disk) {
	return map[string]func(d *disk.Disk){
		"a Claim by hand":               func(d *disk.Disk) { d.Claim() },
		"three Claims":                  func(d *disk.Disk) { d.Claim(); d.Claim(); d.Claim() },
		"a younger store":               func(d *disk.Disk) { open(t, d) },
		"a younger store, and a Claim":  func(d *disk.Disk) { open(t, d); d.Claim() },
		"a younger commit":              func(d *disk.Disk) { wantErr(t, "Commit", open(t, d).Commit(sets(set("a", "9"))), api.OK) },
		"a younger log":                 func(d *disk.Disk) { wal.Open(d) },
		"a store refused at its read":   func(d *disk.Disk) { arm(t, d, fault(2, io)); wantNoStore(t, "refused", d, api.ErrIO) },
		"a store refused at its flush":  func(d *disk.Disk) { arm(t, d, fault(opening(t, d), io)); wantNoStore(t, "refused", d, api.ErrIO) },
		"a store without power":         func(d *disk.Disk) { arm(t, d, fault(1, power)); wantNoStore(t, "refused", d, api.ErrPower) },
		"a log refused":                 func(d *disk.Disk) { arm(t, d, fault(1, io)); wal.Open(d) },
		"a store of a row that is none": func(d *disk.Disk) { spoilt(t, d); wantNoStore(t, "a row that is none", d, api.ErrRow) },
	}
}

// opening is how many operations an Open of a device does; the last of them is its flush.
func opening(t *testing.T, d *disk.Disk) int {
	t.Helper()
	other := twin(t, d)
	arm(t, other)
	open(t, other)
	return other.Done()
}

// spoilt appends what is no transaction of a store to its log.
func spoilt(t *testing.T, d *disk.Disk) {
	t.Helper()
	l, _, _, e := wal.Open(d)
	wantErr(t, "wal.Open", e, api.OK)
	wantErr(t, "Safe", l.Safe(), api.OK)
	wantErr(t, "Append", l.Append([]byte("none")), api.OK)
}

// P14.7: a store has ended behind each Claim that is not its own; it has not ended ahead of that, whatever it did.
func TestOlderStores(t *testing.T) {
	m, p := stands(32, 2, 5, rows{"a": "1"}, sets(set("b", "2")))
	for what, claim := range claims(t) {
		d, s := over(t, m)()
		wantStore(t, "ahead of "+what, d, s, p)
		claim(d)
		wantEnded(t, "behind "+what, d, s)
		d, s = over(t, m, sets(set("c", "3")))()
		wantStore(t, "ahead of "+what, d, s, p.commit(sets(set("c", "3"))).store)
		claim(d)
		wantEnded(t, "a commit, and behind "+what, d, s)
	}
}

// P14.7: the younger store goes on where the older one has ended, and is not touched by what the older one is asked.
func TestYoungerStore(t *testing.T) {
	m, p := stands(32, 2, 5, rows{"a": "1"}, sets(set("b", "2")))
	d, old := over(t, m)()
	for i := range 5 {
		young := open(t, d)
		wantEnded(t, "the older one", d, old)
		wantStore(t, "the younger one", d, young, p)
		l := sets(set("c", string(rune('0'+i))))
		wantErr(t, "Commit", young.Commit(l), api.OK)
		p = p.commit(l).store
		wantEnded(t, "the older one", d, old)
		wantStore(t, "the younger one", d, young, p)
		old = young
	}
}

// P14.7: what is refused by the store itself, and what has nothing to do, does not end it; nor does a loss of power that no Commit has met.
func TestNotEnded(t *testing.T) {
	m, p := stands(32, 2, 5, rows{"a": "1"}, sets(set("b", "2")))
	d, s := over(t, m)()
	for _, l := range [][]api.Set{nil, sets(set("", "x")), changed(4801), changed(1921), sets(set("a", "1"))} {
		s.Commit(l)
		s.Fits(l)
		wantStore(t, "refused by the store", d, s, p)
	}
	arm(t, d, fault(1, io), fault(2, power))
	if _, e := d.Read(0); e != api.ErrIO {
		t.Errorf("Read = %d", e)
	}
	wantErr(t, "Flush", d.Flush(), api.ErrPower)
	wantStore(t, "refused to others", d, s, p)
	wantErr(t, "Fits", s.Fits(sets(set("c", "3"))), api.OK)
	wantStore(t, "without power", d, s, p)
	wantErr(t, "Commit", s.Commit(sets(set("c", "3"))), api.ErrPower)
	wantEnded(t, "a Commit without power", d, s)
	wantDone(t, "without power", d, 2)
}

// P14.7: a store ends by the refusal that its own Commit met, and its device still takes a younger one.
func TestEndedByARefusal(t *testing.T) {
	m, p := stands(32, 2, 5, rows{"a": "1"}, flips(14)...)
	l := sets(set("c", "3"))
	c := p.commit(l)
	if !c.turned || len(c.ops) != 6 {
		t.Fatalf("%d operations", len(c.ops))
	}
	for k := 1; k <= len(c.ops); k++ {
		d, s := over(t, m)()
		arm(t, d, fault(k, io))
		wantErr(t, "Commit", s.Commit(l), api.ErrIO)
		wantEnded(t, "refused", d, s)
		arm(t, d)
		wantEnded(t, "refused, nothing armed any more", d, s)
		young := open(t, d)
		wantEnded(t, "refused, behind a younger one", d, s)
		want := p.rows
		if k == len(c.ops) {
			want = c.store.rows // its last write pended
		}
		wantFound(t, "the younger one", d, want)
		wantEnded(t, "the younger one, behind a third", d, young)
	}
}

// P14.7: stores over unlike devices end by themselves.
func TestEndedAlone(t *testing.T) {
	m, p := stands(32, 2, 5, rows{"a": "1"})
	d, s := over(t, m)()
	e, u := over(t, m)()
	d.Claim()
	wantEnded(t, "the one", d, s)
	wantStore(t, "the other", e, u, p)
	arm(t, e, fault(1, io))
	other, e2 := store.Open(made(t, m))
	wantErr(t, "Open", e2, api.OK)
	wantErr(t, "Commit", u.Commit(sets(set("b", "2"))), api.ErrIO)
	wantEnded(t, "the other", e, u)
	if other.Ended() {
		t.Errorf("a third one has ended")
	}
}
