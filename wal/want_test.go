package wal_test

import (
	"bytes"
	"fmt"
	"reflect"
	"slices"
	"testing"

	"culvert/api"
	"culvert/disk"
	"culvert/wal"
)

// stand is all that the looks tell of a device.
type stand struct {
	sectors       int
	power         bool
	done, claimed int
	pending       []api.Pending
	durable       []byte
}

func standOf(d *disk.Disk) stand {
	pending := d.Pending()
	if len(pending) == 0 {
		pending = nil // nil and the empty list are the same
	}
	return stand{d.Sectors(), d.Power(), d.Done(), d.Claimed(), pending, d.Durable()}
}

// String is short: of a sector just the head, of what lasts the sectors that are not zeros.
func (s stand) String() string {
	text := fmt.Sprintf("%d sectors, power %v, done %d, claimed %d, pending", s.sectors, s.power, s.done, s.claimed)
	for _, w := range s.pending {
		text += fmt.Sprintf(" (%d, %s)", w.Sector, head(w.Data))
	}
	text += ", durable"
	for i, b := range imageOf(s.durable) {
		if !bytes.Equal(b, make([]byte, size)) {
			text += fmt.Sprintf(" (%d, %s)", i, head(b))
		}
	}
	return text
}

func head(b []byte) string {
	if len(b) != size {
		return brief(b)
	}
	return fmt.Sprintf("%q %x", b[:4], b[4:40])
}

func brief[T string | []byte](b T) string {
	if len(b) <= 12 {
		return fmt.Sprintf("%q", string(b))
	}
	return fmt.Sprintf("%q.. of %d", string(b[:12]), len(b))
}

func briefs[T string | []byte](l []T) []string {
	var out []string
	for _, b := range l {
		out = append(out, brief(b))
	}
	return out
}

func wantStand(t *testing.T, what string, d *disk.Disk, want stand) {
	t.Helper()
	if got := standOf(d); !reflect.DeepEqual(got, want) {
		t.Errorf("%s: the device stands: %v, want: %v", what, got, want)
	}
}

func wantErr(t *testing.T, what string, got, want api.Errno) {
	t.Helper()
	if got != want {
		t.Errorf("%s = %d, want %d", what, got, want)
	}
}

func wantDone(t *testing.T, what string, d *disk.Disk, want int) {
	t.Helper()
	if got := d.Done(); got != want {
		t.Errorf("%s: %d operations, want %d", what, got, want)
	}
}

// wantLog holds State, Left and Room against how a log ought to stand, and that asking does nothing.
func wantLog(t *testing.T, what string, d *disk.Disk, l *wal.Log, epoch, seq, place, left, room int) {
	t.Helper()
	was := standOf(d)
	for range 2 {
		if e, s, p := l.State(); e != epoch || s != seq || p != place {
			t.Errorf("%s: State() = %d, %d, %d, want %d, %d, %d", what, e, s, p, epoch, seq, place)
		}
		if got := l.Left(); got != left {
			t.Errorf("%s: Left() = %d, want %d", what, got, left)
		}
		if got := l.Room(); got != room {
			t.Errorf("%s: Room() = %d, want %d", what, got, room)
		}
	}
	wantStand(t, what+": State, Left and Room", d, was)
}

// wantEnded holds all of a log's calls against those of an ended one.
func wantEnded(t *testing.T, what string, d *disk.Disk, l *wal.Log) {
	t.Helper()
	was := standOf(d)
	for range 2 {
		wantErr(t, what+": Safe of an ended log", l.Safe(), api.ErrEnded)
		for _, n := range []int{0, 1, 480, 481, 4800, 4801} {
			wantErr(t, what+": Append of an ended log", l.Append(make([]byte, n)), api.ErrEnded)
		}
		for _, n := range []int{0, 1, 480, 481, 1920, 1921, 30000} {
			wantErr(t, what+": Checkpoint of an ended log", l.Checkpoint(make([]byte, n)), api.ErrEnded)
		}
		wantLog(t, what+": ended", d, l, 0, 0, 0, 0, 0)
	}
	wantStand(t, what+": the calls of an ended log", d, was)
}

// made is a device of these sectors.
func made(t *testing.T, m image) *disk.Disk {
	t.Helper()
	d, e := disk.Image(m.bytes())
	if d == nil || e != api.OK {
		t.Fatalf("disk.Image(%d sectors) = %v, %d", len(m), d, e)
	}
	return d
}

// formatted is a device that Format has laid a log on.
func formatted(t *testing.T, n int) *disk.Disk {
	t.Helper()
	d := disk.New(n)
	wantErr(t, "Format", wal.Format(d), api.OK)
	return d
}

func arm(t *testing.T, d *disk.Disk, l ...api.Fault) {
	t.Helper()
	wantErr(t, fmt.Sprintf("Arm(%v)", l), d.Arm(l), api.OK)
}

func fault(at, kind int) api.Fault { return api.Fault{At: at, Kind: kind} }

// errOf is what an operation answers that meets a fault.
func errOf(kind int) api.Errno {
	if kind == power {
		return api.ErrPower
	}
	return api.ErrIO
}

func texts(l [][]byte) []string {
	var out []string
	for _, b := range l {
		out = append(out, string(b))
	}
	return out
}

// wantNoLog holds what is answered beside an error.
func wantNoLog(t *testing.T, what string, d *disk.Disk, want api.Errno) {
	t.Helper()
	if l, state, txs, e := wal.Open(d); l != nil || len(state) != 0 || len(txs) != 0 || e != want {
		t.Errorf("%s: Open = %v, %s, %q, %d, want none and %d", what, l != nil, brief(state), briefs(txs), e, want)
	}
}

// wantTold opens, and holds just what is told.
func wantTold(t *testing.T, what string, d *disk.Disk, state string, txs ...string) *wal.Log {
	t.Helper()
	l, s, l2, e := wal.Open(d)
	if l == nil || e != api.OK {
		t.Fatalf("%s: Open = %v, %d", what, l != nil, e)
	}
	if string(s) != state || !slices.Equal(texts(l2), txs) {
		t.Errorf("%s: Open tells %s, %q, want %s, %q", what, brief(s), briefs(l2), brief(state), briefs(txs))
	}
	return l
}

// safe opens and makes what was found safe.
func safe(t *testing.T, d *disk.Disk) *wal.Log {
	t.Helper()
	l, _, _, e := wal.Open(d)
	if l == nil || e != api.OK {
		t.Fatalf("Open = %v, %d", l != nil, e)
	}
	wantErr(t, "Safe", l.Safe(), api.OK)
	return l
}

// wantOpen opens a device of these sectors, and holds all that the chapter says of that: what is told, how the log stands, how many operations it was, and that nothing else has changed.
func wantOpen(t *testing.T, what string, m image, want opened) {
	t.Helper()
	d := made(t, m)
	after := standOf(d)
	after.claimed, after.done = 1, len(want.reads)
	if want.err != api.OK {
		wantNoLog(t, what, d, want.err)
		wantStand(t, what, d, after)
		return
	}
	l := wantTold(t, what, d, want.state, want.txs...)
	wantStand(t, what, d, after)
	wantLog(t, what, d, l, want.epoch, want.seq, want.place, m.room()-want.place, m.room())
}

// wantOpenWhole is wantOpen, and more: what the sectors tell that are not read is nothing, and each operation is refused by itself.
func wantOpenWhole(t *testing.T, what string, m image, want opened) {
	t.Helper()
	if plain := plainOpen(m); !reflect.DeepEqual(plain, want) {
		t.Errorf("%s: the plain Open is %v, want %v", what, plain, want)
	}
	wantOpen(t, what, m, want)
	other := m.clone()
	for i := range other {
		if !slices.Contains(want.reads, i) {
			other[i] = bytes.Repeat([]byte{byte(i)}, size)
		}
	}
	wantOpen(t, what+", others in what is not read", other, want)
	for k := 1; k <= len(want.reads)+1; k++ {
		for _, kind := range []int{power, io} {
			wantOpenRefused(t, fmt.Sprintf("%s, the operation %d meets %d", what, k, kind), m, want, k, kind)
		}
	}
}

func wantOpenRefused(t *testing.T, what string, m image, want opened, k, kind int) {
	t.Helper()
	d := made(t, m)
	arm(t, d, fault(k, kind))
	after := standOf(d)
	after.claimed, after.done = 1, k
	switch {
	case k <= len(want.reads):
		after.power = kind != power
		wantNoLog(t, what, d, errOf(kind))
	case want.err != api.OK:
		after.done = len(want.reads)
		wantNoLog(t, what, d, want.err)
	default:
		after.done = len(want.reads)
		wantTold(t, what, d, want.state, want.txs...)
	}
	wantStand(t, what, d, after)
}

// wantDoes makes a call on a new device and a new log of each try, and holds its operations and their order: done whole; and refused one by one, the device standing then as the operations ahead have left it, and the log ended.
func wantDoes(t *testing.T, what string, prepare func() (*disk.Disk, *wal.Log), call func(l *wal.Log) api.Errno, ops []operation) {
	t.Helper()
	d, l := prepare()
	want := standOf(d)
	arm(t, d)
	wantErr(t, what, call(l), api.OK)
	want.does(ops)
	wantStand(t, what, d, want)
	for k := 1; k <= len(ops); k++ {
		for _, kind := range []int{power, io} {
			d, l := prepare()
			want := standOf(d)
			arm(t, d, fault(k, kind))
			refused := fmt.Sprintf("%s, the operation %d meets %d", what, k, kind)
			wantErr(t, refused, call(l), errOf(kind))
			want.does(ops[:k-1])
			want.done, want.power = k, kind != power
			wantStand(t, refused, d, want)
			wantEnded(t, refused, d, l)
		}
	}
}

// does does the operations, the first ones since an Arm.
func (s *stand) does(ops []operation) {
	s.done = len(ops)
	m := imageOf(s.durable)
	for _, o := range ops {
		if o.sector >= 0 {
			s.pending = append(s.pending, api.Pending{Sector: o.sector, Data: o.data})
			continue
		}
		for _, w := range s.pending {
			m[w.Sector] = w.Data
		}
		s.pending = nil
	}
	s.durable = m.bytes()
}
