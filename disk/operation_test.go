package disk_test

import (
	"fmt"
	"math"
	"testing"

	"culvert/api"
	"culvert/disk"
)

// How the device of a try stands ahead of an operation: the power, and what the operation would meet.
var tries = []struct {
	name string
	set  func(t *testing.T, d *disk.Disk)
	want api.Errno // of an operation that may be
}{
	{"nothing armed", func(t *testing.T, d *disk.Disk) {}, api.OK},
	{"ErrIO armed", func(t *testing.T, d *disk.Disk) { arm(t, d, fault(1, io)) }, api.ErrIO},
	{"the power's failing armed", func(t *testing.T, d *disk.Disk) { arm(t, d, fault(1, power)) }, api.ErrPower},
	{"the power off", func(t *testing.T, d *disk.Disk) { powerless(t, d) }, api.ErrPower},
}

func noSectors(n int) []int {
	return []int{-1, n, n + 1, -2, -n, 2 * n, 512 * n, 1<<32 + 1, 1<<55 + 1, 1 << 62, math.MinInt, math.MinInt + 1, math.MaxInt}
}

func noSectorSizes() []int { return []int{0, 1, 511, 513, 32, 256, 1024, 512 * 32} }

// P10.2: no such sector: ahead of all else, uncounted, and what is armed waits on.
func TestNoSuchSector(t *testing.T) {
	for _, n := range []int{32, 33, 8192} {
		for _, try := range tries {
			d := disk.New(n)
			try.set(t, d)
			was := standOf(d)
			for _, i := range noSectors(n) {
				wantNoRead(t, d, i, api.ErrSector)
				wantErr(t, fmt.Sprintf("Write(%d)", i), d.Write(i, full('A')), api.ErrSector)
				for _, k := range noSectorSizes() {
					wantErr(t, fmt.Sprintf("Write(%d, %d bytes)", i, k), d.Write(i, make([]byte, k)), api.ErrSector)
				}
				wantErr(t, fmt.Sprintf("Write(%d, nil)", i), d.Write(i, nil), api.ErrSector)
			}
			wantStand(t, try.name, d, was)
			wantErr(t, try.name+": Write", d.Write(n-1, full('A')), try.want)
		}
	}
}

// P10.2: not 512 bytes: behind the sector, ahead of the power, uncounted, and what is armed waits on.
func TestNoSectorsBytes(t *testing.T) {
	for _, try := range tries {
		d := disk.New(32)
		try.set(t, d)
		was := standOf(d)
		for _, i := range []int{0, 1, 31} {
			for _, k := range noSectorSizes() {
				wantErr(t, fmt.Sprintf("Write(%d, %d bytes)", i, k), d.Write(i, make([]byte, k)), api.ErrLength)
			}
			wantErr(t, fmt.Sprintf("Write(%d, nil)", i), d.Write(i, nil), api.ErrLength)
			wantErr(t, fmt.Sprintf("Write(%d, none with room for 512)", i), d.Write(i, make([]byte, 0, 512)), api.ErrLength)
		}
		wantStand(t, try.name, d, was)
		wantErr(t, try.name+": Write", d.Write(31, full('A')), try.want)
	}
}

// P10.2: with the power off no operation is counted, and nothing changes.
func TestPowerOff(t *testing.T) {
	d := made(t, image(32))
	write(t, d, 3, full('A'))
	powerless(t, d)
	was := standOf(d)
	for range 3 {
		for i := range 32 {
			wantNoRead(t, d, i, api.ErrPower)
			wantErr(t, "Write", d.Write(i, full('B')), api.ErrPower)
		}
		wantErr(t, "Flush", d.Flush(), api.ErrPower)
		wantStand(t, "without power", d, was)
	}
	d.Crash([]bool{true})
	wantRead(t, d, 3, full('A'))
}

// P10.2: the first and the last sector are ones, at every operation.
func TestSectorsAtTheEnds(t *testing.T) {
	for _, n := range []int{32, 33, 8192} {
		d := disk.New(n)
		write(t, d, 0, full('A'))
		write(t, d, n-1, full('B'))
		wantRead(t, d, 0, full('A'))
		wantRead(t, d, n-1, full('B'))
		flush(t, d)
		wantLasts(t, d, 0, full('A'))
		wantLasts(t, d, 1, full(0))
		wantLasts(t, d, n-2, full(0))
		wantLasts(t, d, n-1, full('B'))
		wantDone(t, d, 5)
	}
}

// P10.2: each operation that may be is counted, done or not.
func TestCounting(t *testing.T) {
	for _, op := range operations() {
		d := disk.New(32)
		for k := range 5 {
			wantErr(t, op.name, op.call(d), api.OK)
			wantDone(t, d, k+1)
		}
		arm(t, d, fault(2, io), fault(3, io), fault(5, power))
		wantDone(t, d, 0)
		for k, want := range []api.Errno{api.OK, api.ErrIO, api.ErrIO, api.OK, api.ErrPower} {
			wantErr(t, op.name, op.call(d), want)
			wantDone(t, d, k+1)
		}
		wantErr(t, op.name+" without power", op.call(d), api.ErrPower)
		wantDone(t, d, 5)
	}
}

// P10.2, P10.3: an operation that meets what is armed changes the count alone, and with FaultPower the power; what pends and what lasts stay.
func TestRefusedOperation(t *testing.T) {
	for _, op := range operations() {
		for kind, want := range map[int]api.Errno{power: api.ErrPower, io: api.ErrIO} {
			for at := range 4 {
				d := made(t, image(32))
				write(t, d, 3, full('A'))
				write(t, d, 4, full('B'))
				write(t, d, 3, full('C'))
				arm(t, d, fault(at+1, kind))
				for k := range at {
					wantRead(t, d, k, numbered(1000+k))
				}
				was := standOf(d)
				wantErr(t, op.name, op.call(d), want)
				was.done, was.power = at+1, kind != power
				wantStand(t, op.name+" refused", d, was)
				wantGoesOn(t, d, kind)
			}
		}
	}
}

// wantGoesOn: behind a refusal, ErrIO's or the power's, what pended is read, and lasts behind a Flush.
func wantGoesOn(t *testing.T, d *disk.Disk, kind int) {
	t.Helper()
	if kind == power {
		wantNoRead(t, d, 3, api.ErrPower)
		d.Crash([]bool{true, true, true})
	}
	wantRead(t, d, 3, full('C'))
	wantRead(t, d, 4, full('B'))
	wantRead(t, d, 5, numbered(1005))
	flush(t, d)
	wantLasts(t, d, 3, full('C'))
	wantLasts(t, d, 4, full('B'))
	wantLasts(t, d, 5, numbered(1005))
}

// P10.2: a Read that is refused tells no bytes, of what pends neither.
func TestRefusedRead(t *testing.T) {
	d := made(t, image(32))
	write(t, d, 7, full('A'))
	arm(t, d, fault(1, io), fault(2, io), fault(4, power))
	wantNoRead(t, d, 7, api.ErrIO)
	wantNoRead(t, d, 8, api.ErrIO)
	wantRead(t, d, 7, full('A'))
	wantNoRead(t, d, 7, api.ErrPower)
	wantNoRead(t, d, 8, api.ErrPower)
}

// P10.3: a Read tells the latest write to its sector that pends, else what lasts.
func TestReadOfWhatPends(t *testing.T) {
	d := made(t, image(32))
	wantRead(t, d, 5, numbered(1005))
	for k := range 5 {
		write(t, d, 5, numbered(k))
		wantRead(t, d, 5, numbered(k))
		write(t, d, 6+k, numbered(50+k))
		wantRead(t, d, 5, numbered(k))
		wantRead(t, d, 6+k, numbered(50+k))
		wantRead(t, d, 7+k, numbered(1007+k))
		wantLasts(t, d, 5, numbered(1005))
	}
	write(t, d, 5, numbered(1005)) // a write of what lasts pends as any other one
	wantRead(t, d, 5, numbered(1005))
	if n := len(d.Pending()); n != 11 {
		t.Errorf("%d writes pend, want 11", n)
	}
}

// P10.3: writes pend in the order in which they were made, the same one twice too.
func TestWritesInOrder(t *testing.T) {
	d := disk.New(32)
	var want []api.Pending
	for k, i := range []int{9, 3, 9, 31, 0, 3, 9, 9} {
		write(t, d, i, numbered(k))
		want = append(want, pend(i, numbered(k)))
		wantPending(t, d, want...)
	}
	write(t, d, 9, numbered(7))
	write(t, d, 9, full(0))
	wantPending(t, d, append(want, pend(9, numbered(7)), pend(9, full(0)))...)
}

// P10.3: a Flush lays all writes down in their order, and then nothing pends.
func TestFlush(t *testing.T) {
	d := made(t, image(32))
	for k, i := range []int{9, 3, 9, 31, 0, 3} {
		write(t, d, i, numbered(k))
	}
	flush(t, d)
	wantPending(t, d)
	for i, k := range map[int]int{9: 2, 3: 5, 31: 3, 0: 4, 1: 1001, 8: 1008, 10: 1010, 30: 1030} {
		wantLasts(t, d, i, numbered(k))
		wantRead(t, d, i, numbered(k))
	}
}

// P10.3: between two flushes just what was written between them is laid down.
func TestFlushes(t *testing.T) {
	d := disk.New(32)
	write(t, d, 1, full('A'))
	write(t, d, 2, full('B'))
	flush(t, d)
	write(t, d, 2, full('C'))
	wantLasts(t, d, 2, full('B'))
	wantPending(t, d, pend(2, full('C')))
	wantRead(t, d, 1, full('A'))
	wantRead(t, d, 2, full('C'))
	flush(t, d)
	write(t, d, 1, full('D'))
	flush(t, d)
	wantLasts(t, d, 1, full('D'))
	wantLasts(t, d, 2, full('C'))
}

// P10.3: a Flush where nothing pends is done, is counted, and changes nothing else; one that is armed is met.
func TestFlushOfNothing(t *testing.T) {
	d := made(t, image(32))
	was := standOf(d)
	flush(t, d)
	flush(t, d)
	was.done = 2
	wantStand(t, "behind flushes of nothing", d, was)
	arm(t, d, fault(1, io))
	wantErr(t, "Flush of nothing", d.Flush(), api.ErrIO)
	flush(t, d)
	wantStand(t, "behind a flush of nothing that was refused", d, was)
}

// P10.3: a Flush that is refused may be done later, and then lays down all.
func TestFlushLater(t *testing.T) {
	d := disk.New(32)
	write(t, d, 1, full('A'))
	arm(t, d, fault(1, io), fault(3, io))
	wantErr(t, "Flush", d.Flush(), api.ErrIO)
	write(t, d, 2, full('B'))
	wantErr(t, "Flush", d.Flush(), api.ErrIO)
	wantPending(t, d, pend(1, full('A')), pend(2, full('B')))
	wantLasts(t, d, 1, full(0))
	flush(t, d)
	wantPending(t, d)
	wantLasts(t, d, 1, full('A'))
	wantLasts(t, d, 2, full('B'))
}

// P10.3: very many writes pend, to few sectors and to all.
func TestManyWrites(t *testing.T) {
	d := disk.New(100)
	const many = 3000
	for k := range many {
		write(t, d, k*7%100, numbered(k))
	}
	pending := d.Pending()
	if len(pending) != many {
		t.Fatalf("%d writes pend, want %d", len(pending), many)
	}
	for k, w := range pending {
		if w.Sector != k*7%100 || string(w.Data) != string(numbered(k)) {
			t.Fatalf("the write %d is (%d, %s)", k, w.Sector, brief(w.Data))
		}
	}
	flush(t, d)
	for k := many - 100; k < many; k++ {
		wantRead(t, d, k*7%100, numbered(k))
	}
}
