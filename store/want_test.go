package store_test

import (
	"bytes"
	"fmt"
	"reflect"
	"slices"
	"strings"
	"testing"

	"culvert/api"
	"culvert/disk"
	"culvert/store"
)

// stand is all that the looks tell of a device.
type stand struct {
	sectors       int
	power         bool
	done, claimed int
	pending       []api.Pending
	durable       []byte
}

func standOf(d *disk.Disk) stand {
	pending := d.Pending()
	if len(pending) == 0 {
		pending = nil // nil and the empty list are the same
	}
	return stand{d.Sectors(), d.Power(), d.Done(), d.Claimed(), pending, d.Durable()}
}

// String is short: of a sector just the head, of what lasts the sectors that are not zeros.
func (s stand) String() string {
	text := fmt.Sprintf("%d sectors, power %v, done %d, claimed %d, pending", s.sectors, s.power, s.done, s.claimed)
	for _, w := range s.pending {
		text += fmt.Sprintf(" (%d, %s)", w.Sector, head(w.Data))
	}
	text += ", durable"
	for i, b := range imageOf(s.durable) {
		if !bytes.Equal(b, make([]byte, size)) {
			text += fmt.Sprintf(" (%d, %s)", i, head(b))
		}
	}
	return text
}

func head(b []byte) string { return fmt.Sprintf("%q %x", b[:4], b[4:40]) }

// does does the operations, the first ones since an Arm.
func (s *stand) does(ops []operation) {
	s.done = len(ops)
	m := imageOf(s.durable)
	for _, o := range ops {
		if o.sector >= 0 {
			s.pending = append(s.pending, api.Pending{Sector: o.sector, Data: o.data})
			continue
		}
		for _, w := range s.pending {
			m[w.Sector] = w.Data
		}
		s.pending = nil
	}
	s.durable = m.bytes()
}

func brief(text string) string {
	if len(text) <= 12 {
		return fmt.Sprintf("%q", text)
	}
	return fmt.Sprintf("%q.. of %d", text[:12], len(text))
}

func (r rows) String() string {
	var out []string
	for _, key := range r.keys() {
		out = append(out, brief(key)+" "+brief(r[key]))
	}
	return "{" + strings.Join(out, ", ") + "}"
}

// told is a list of sets as a text.
func told(l []api.Set) string {
	var out []string
	for _, s := range l {
		value := brief(string(s.Value))
		if s.Gone {
			value = "gone"
		}
		out = append(out, brief(string(s.Key))+" "+value)
	}
	return "(" + strings.Join(out, ", ") + ")"
}

func wantStand(t *testing.T, what string, d *disk.Disk, want stand) {
	t.Helper()
	if got := standOf(d); !reflect.DeepEqual(got, want) {
		t.Errorf("%s: the device stands: %v, want: %v", what, got, want)
	}
}

func wantErr(t *testing.T, what string, got, want api.Errno) {
	t.Helper()
	if got != want {
		t.Errorf("%s = %d, want %d", what, got, want)
	}
}

func wantDone(t *testing.T, what string, d *disk.Disk, want int) {
	t.Helper()
	if got := d.Done(); got != want {
		t.Errorf("%s: %d operations, want %d", what, got, want)
	}
}

// made is a device of these sectors.
func made(t *testing.T, m image) *disk.Disk {
	t.Helper()
	d, e := disk.Image(m.bytes())
	if d == nil || e != api.OK {
		t.Fatalf("disk.Image(%d sectors) = %v, %d", len(m), d, e)
	}
	return d
}

// formatted is a device that Format has laid a store on.
func formatted(t *testing.T, n int) *disk.Disk {
	t.Helper()
	d := disk.New(n)
	wantErr(t, "Format", store.Format(d), api.OK)
	return d
}

func open(t *testing.T, d *disk.Disk) *store.Store {
	t.Helper()
	s, e := store.Open(d)
	if s == nil || e != api.OK {
		t.Fatalf("Open = %v, %d", s != nil, e)
	}
	return s
}

func arm(t *testing.T, d *disk.Disk, l ...api.Fault) {
	t.Helper()
	wantErr(t, fmt.Sprintf("Arm(%v)", l), d.Arm(l), api.OK)
}

func fault(at, kind int) api.Fault { return api.Fault{At: at, Kind: kind} }

// errOf is what an operation answers that meets a fault.
func errOf(kind int) api.Errno {
	if kind == power {
		return api.ErrPower
	}
	return api.ErrIO
}

// rowsOf are a store's Rows, which must rise.
func rowsOf(t *testing.T, what string, s *store.Store) rows {
	t.Helper()
	out := rows{}
	last := ""
	for _, r := range s.Rows() {
		if key := string(r.Key); key <= last {
			t.Errorf("%s: Rows() has %q behind %q", what, key, last)
		}
		last = string(r.Key)
		out[last] = string(r.Value)
	}
	return out
}

// otherKeys are some that may be a row's, and some that never are.
func otherKeys() []string {
	return []string{"", "\x00", "a", "b", "no", "zz", strings.Repeat("k", 39), strings.Repeat("k", 40), strings.Repeat("k", 41), great(1)}
}

// wantStore holds all that a store tells against how it ought to stand, and that telling does nothing.
func wantStore(t *testing.T, what string, d *disk.Disk, s *store.Store, want plain) {
	t.Helper()
	was := standOf(d)
	for range 2 {
		if got := rowsOf(t, what, s); !reflect.DeepEqual(got, want.rows) {
			t.Errorf("%s: Rows() = %v, want %v", what, got, want.rows)
		}
		for _, key := range append(otherKeys(), want.rows.keys()...) {
			value, there := want.rows[key]
			if got, ok := s.Get([]byte(key)); string(got) != value || ok != there {
				t.Errorf("%s: Get(%s) = %s, %v, want %s, %v", what, brief(key), brief(string(got)), ok, brief(value), there)
			}
		}
		if epoch, seq, place := s.State(); epoch != want.epoch || seq != want.seq || place != want.place {
			t.Errorf("%s: State() = %d, %d, %d, want %d, %d, %d", what, epoch, seq, place, want.epoch, want.seq, want.place)
		}
		if s.Ended() {
			t.Errorf("%s: Ended() = true", what)
		}
	}
	wantStand(t, what+": telling", d, was)
}

// anyLists are lists of all kinds: some change something, some nothing, some may not be.
func anyLists() [][]api.Set {
	return [][]api.Set{nil, {}, sets(set("a", "1")), sets(set("b", "2"), gone("a")), sets(gone("none")), sets(set("", "x")), sets(set("x", great(1)+"x")), filled("x", 4801, 1).asSets(), filled("x", 9600, 1).asSets()}
}

// wantEnded holds all of a store's calls against those of an ended one.
func wantEnded(t *testing.T, what string, d *disk.Disk, s *store.Store) {
	t.Helper()
	was := standOf(d)
	for range 2 {
		if !s.Ended() {
			t.Errorf("%s: Ended() = false", what)
		}
		for _, key := range otherKeys() {
			if value, ok := s.Get([]byte(key)); len(value) != 0 || ok {
				t.Errorf("%s: Get(%s) of an ended store = %s, %v", what, brief(key), brief(string(value)), ok)
			}
		}
		if l := s.Rows(); len(l) != 0 {
			t.Errorf("%s: an ended store has %d rows", what, len(l))
		}
		if epoch, seq, place := s.State(); epoch != 0 || seq != 0 || place != 0 {
			t.Errorf("%s: State() of an ended store = %d, %d, %d", what, epoch, seq, place)
		}
		for _, l := range anyLists() {
			wantErr(t, what+": Fits of an ended store", s.Fits(l), api.ErrEnded)
			wantErr(t, what+": Commit of an ended store", s.Commit(l), api.ErrEnded)
		}
	}
	wantStand(t, what+": the calls of an ended store", d, was)
}

func wantNoStore(t *testing.T, what string, d *disk.Disk, want api.Errno) {
	t.Helper()
	if s, e := store.Open(d); s != nil || e != want {
		t.Errorf("%s: Open = %v, %d, want none and %d", what, s != nil, e, want)
	}
}

// wantOpens opens a device of these sectors, and holds all that the chapter says of that: what is told, how many operations it was, that nothing was written, that what pended lasts; and each operation refused by itself.
func wantOpens(t *testing.T, what string, m image, want plain) {
	t.Helper()
	reads := want.reads()
	for k := range reads + 3 {
		for _, kind := range []int{power, io} {
			d := withPending(t, m)
			after := standOf(d)
			after.claimed, after.done = 1, reads+1
			if k > 0 {
				arm(t, d, fault(k, kind))
			}
			if 0 < k && k <= reads+1 {
				after.done, after.power = k, kind != power
				wantNoStore(t, fmt.Sprintf("%s, the operation %d meets %d", what, k, kind), d, errOf(kind))
				wantStand(t, what+", refused", d, after)
				continue
			}
			s := open(t, d)
			after.lasts()
			wantStand(t, what, d, after)
			wantStore(t, what, d, s, want)
		}
	}
}

// wantNotOpened holds an Open that is refused by what stands there: so many reads, and nothing else.
func wantNotOpened(t *testing.T, what string, m image, reads int, want api.Errno) {
	t.Helper()
	for k := range reads + 3 {
		for _, kind := range []int{power, io} {
			d := withPending(t, m)
			after := standOf(d)
			after.claimed, after.done = 1, reads
			if k > 0 {
				arm(t, d, fault(k, kind))
			}
			e := want
			if 0 < k && k <= reads {
				after.done, after.power, e = k, kind != power, errOf(kind)
			}
			wantNoStore(t, fmt.Sprintf("%s, the operation %d meets %d", what, k, kind), d, e)
			wantStand(t, what, d, after)
		}
	}
}

// withPending is a device of these sectors, on which a write pends that no log has made: the last sector of the other region, of which no log of these tests hangs.
func withPending(t *testing.T, m image) *disk.Disk {
	t.Helper()
	d := made(t, m)
	at := len(m) - 1
	if len(m)%2 == 0 && plainRegion(m) == 1 {
		at = 2 + (len(m)-2)/2 - 1
	}
	wantErr(t, "Write", d.Write(at, bytes.Repeat([]byte{0x99}, size)), api.OK)
	arm(t, d)
	return d
}

// plainRegion is the region of the only superblock.
func plainRegion(m image) int {
	if bytes.HasPrefix(m[1], []byte("CVS1")) {
		return 1
	}
	return 0
}

// lasts lays down what pends.
func (s *stand) lasts() {
	done := s.done
	s.does([]operation{flushing})
	s.done = done
}

// wantFits holds Fits, and that it does nothing.
func wantFits(t *testing.T, what string, d *disk.Disk, s *store.Store, l []api.Set, want api.Errno) {
	t.Helper()
	was := standOf(d)
	for range 2 {
		wantErr(t, fmt.Sprintf("%s: Fits%s", what, told(l)), s.Fits(l), want)
	}
	wantStand(t, what+": Fits", d, was)
}

// maker makes a device and a store over it, at each call new ones that stand the same.
type maker func() (*disk.Disk, *store.Store)

// over makes stores over devices of these sectors; the commits ahead are done.
func over(t *testing.T, m image, ahead ...[]api.Set) maker {
	return func() (*disk.Disk, *store.Store) {
		t.Helper()
		d := made(t, m)
		s := open(t, d)
		for _, l := range ahead {
			wantErr(t, "Commit"+told(l)+" ahead", s.Commit(l), api.OK)
		}
		return d, s
	}
}

// wantCommit commits to a new store at each try, and holds all that the chapter says of that: the error, which must be this one; what Fits tells ahead; the operations and their order, done whole and refused one by one; what the store tells then; what a later Open finds.
func wantCommit(t *testing.T, what string, make maker, p plain, l []api.Set, want api.Errno) committed {
	t.Helper()
	c := p.commit(l)
	what = fmt.Sprintf("%s: Commit%s", what, told(l))
	wantErr(t, what+", plainly", c.err, want)
	d, s := make()
	if len(c.ops) == 0 {
		arm(t, d, fault(1, power)) // no operation meets it
		was := standOf(d)
		wantFits(t, what, d, s, l, want)
		wantErr(t, what, s.Commit(l), want)
		wantStand(t, what, d, was)
		wantStore(t, what, d, s, p)
		return c
	}
	arm(t, d)
	after := standOf(d)
	wantFits(t, what, d, s, l, api.OK)
	wantStore(t, what+", Fits alone", d, s, p)
	wantErr(t, what, s.Commit(l), api.OK)
	after.does(c.ops)
	wantStand(t, what, d, after)
	wantStore(t, what, d, s, c.store)
	wantFits(t, what+", again", d, s, l, api.OK)
	if c.store.seq <= maxSeq {
		other := made(t, imageOf(d.Durable()))
		wantStore(t, what+", found", other, open(t, other), c.store)
	}
	for k := 1; k <= len(c.ops); k++ {
		for _, kind := range []int{power, io} {
			wantRefused(t, fmt.Sprintf("%s, the operation %d meets %d", what, k, kind), make, l, c, k, kind)
		}
	}
	return c
}

func wantRefused(t *testing.T, what string, make maker, l []api.Set, c committed, k, kind int) {
	t.Helper()
	d, s := make()
	arm(t, d, fault(k, kind))
	after := standOf(d)
	wantErr(t, what+": Fits", s.Fits(l), api.OK)
	wantErr(t, what, s.Commit(l), errOf(kind))
	after.does(c.ops[:k-1])
	after.done, after.power = k, kind != power
	wantStand(t, what, d, after)
	wantEnded(t, what, d, s)
}

// twin is another device on which the same lasts and pends.
func twin(t *testing.T, d *disk.Disk) *disk.Disk {
	t.Helper()
	other := made(t, imageOf(d.Durable()))
	for _, w := range d.Pending() {
		wantErr(t, "Write", other.Write(w.Sector, w.Data), api.OK)
	}
	return other
}

// wantFound opens, and holds just the rows.
func wantFound(t *testing.T, what string, d *disk.Disk, want rows) *store.Store {
	t.Helper()
	s := open(t, d)
	if got := rowsOf(t, what, s); !reflect.DeepEqual(got, want) {
		t.Errorf("%s: an Open finds %v, want %v", what, got, want)
	}
	return s
}

// survivors are which of m writes a crash keeps: in all ways, if they are few; else nothing, all, each by itself, all but each, the first ones.
func survivors(m int) [][]bool {
	var out [][]bool
	if m <= 4 {
		for number := range 1 << m {
			keep := make([]bool, m)
			for i := range keep {
				keep[i] = number&(1<<i) != 0
			}
			out = append(out, keep)
		}
		return out
	}
	for i := range m {
		one, ahead := make([]bool, m), make([]bool, m)
		one[i] = true
		for j := range i {
			ahead[j] = true
		}
		others := slices.Repeat([]bool{true}, m)
		others[i] = false
		out = append(out, one, ahead, others)
	}
	return append(out, slices.Repeat([]bool{true}, m))
}
