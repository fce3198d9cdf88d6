package disk_test

import (
	"bytes"
	"fmt"
	"slices"
	"testing"

	"culvert/api"
	"culvert/disk"
)

// room is a list in the middle of a longer one, whose things ahead and behind are watched too.
type room[T comparable] struct {
	all, was []T
	list     []T
}

func newRoom[T comparable](list []T, around T) *room[T] {
	const wide = 40
	all := slices.Concat(slices.Repeat([]T{around}, wide), list, slices.Repeat([]T{around}, wide))
	return &room[T]{all, slices.Clone(all), all[wide : wide+len(list)]}
}

func (r *room[T]) wantUnchanged(t *testing.T, what string) {
	t.Helper()
	if !slices.Equal(r.all, r.was) {
		t.Errorf("%s has changed its list, or what lies around it", what)
	}
}

// writeOver makes all of it, what lies around too, something else.
func (r *room[T]) writeOver(x T) {
	for i := range r.all {
		r.all[i] = x
	}
}

// spoil writes over all that a caller may write over, the spare room too.
func spoil(b []byte) {
	b = b[:cap(b)]
	for i := range b {
		b[i] ^= 0xA5
	}
}

func spoilPending(l []api.Pending) {
	for _, w := range l {
		spoil(w.Data)
	}
	l = l[:cap(l)]
	for i := range l {
		l[i] = pend(77, []byte("spoilt"))
	}
}

// P10.8: the bytes of an Image are neither changed nor kept, whether they make a device or not.
func TestImageMemory(t *testing.T) {
	for _, n := range []int{32 * 512, 33 * 512, 32*512 + 1, 31 * 512, 0} {
		r := newRoom(image(33)[:n], 0x77)
		d, _ := disk.Image(r.list)
		r.wantUnchanged(t, "Image")
		if d == nil {
			continue
		}
		write(t, d, 0, full('A'))
		write(t, d, n/512-1, full('B'))
		flush(t, d)
		r.wantUnchanged(t, "a device made of it")
		was := standOf(d)
		r.writeOver(0x66)
		wantStand(t, "the image written over", d, was)
		wantRead(t, d, 1, numbered(1001))
		wantRead(t, d, 0, full('A'))
	}
}

// P10.8: the bytes of a Write are neither changed nor kept: written over behind it, they change neither what pends nor what is read nor what lasts.
func TestWriteMemory(t *testing.T) {
	for _, end := range []func(d *disk.Disk){func(d *disk.Disk) { d.Flush() }, func(d *disk.Disk) { d.Crash([]bool{true, true}) }} {
		d := disk.New(32)
		one, two := newRoom(full('A'), 0x77), newRoom(full('B'), 0x77)
		write(t, d, 3, one.list)
		write(t, d, 4, two.list)
		one.wantUnchanged(t, "Write")
		two.wantUnchanged(t, "Write")
		one.writeOver(0x66)
		wantPending(t, d, pend(3, full('A')), pend(4, full('B')))
		wantRead(t, d, 3, full('A'))
		end(d)
		two.wantUnchanged(t, "Flush or Crash")
		two.writeOver(0x66)
		wantLasts(t, d, 3, full('A'))
		wantLasts(t, d, 4, full('B'))
		wantRead(t, d, 3, full('A'))
		write(t, d, 3, full('C'))
		flush(t, d)
		if one.list[0] != 0x66 || two.list[0] != 0x66 {
			t.Errorf("a later Write has changed what an elder one was given")
		}
	}
}

// P10.8: one list may be handed in again and again, changed by its owner in between.
func TestOneListForAll(t *testing.T) {
	d := disk.New(32)
	b := full(0)
	for k := range 32 {
		copy(b, numbered(k))
		write(t, d, k%8, b)
	}
	for k, w := range d.Pending() {
		if w.Sector != k%8 || !bytes.Equal(w.Data, numbered(k)) {
			t.Errorf("the write %d is (%d, %s)", k, w.Sector, brief(w.Data))
		}
	}
	flush(t, d)
	for i := range 8 {
		wantRead(t, d, i, numbered(24+i))
	}
}

// P10.8: bytes that a Write refuses are left alone, for any error.
func TestRefusedWriteMemory(t *testing.T) {
	for _, try := range tries {
		d := disk.New(32)
		try.set(t, d)
		for _, n := range []int{0, 511, 512, 513} {
			for _, i := range []int{-1, 32, 0, 31} {
				r := newRoom(bytes.Repeat([]byte{5}, n), 0x77)
				d.Write(i, r.list)
				r.wantUnchanged(t, fmt.Sprintf("Write(%d, %d bytes)", i, n))
			}
		}
	}
}

// P10.8: a list of faults stays as it is, in its order too, and is not kept: what its owner makes of it behind an Arm arms nothing and disarms nothing.
func TestArmMemory(t *testing.T) {
	d := disk.New(32)
	r := newRoom([]api.Fault{fault(5, io), fault(2, io), fault(7, power), fault(1, io)}, fault(3, io))
	wantErr(t, "Arm", d.Arm(r.list), api.OK)
	r.wantUnchanged(t, "Arm")
	wantMeets(t, "armed", d, api.ErrIO)
	r.writeOver(fault(4, power))
	wantMeets(t, "the list written over", d, api.ErrIO, api.OK, api.OK, api.ErrIO, api.OK, api.ErrPower)
	d.Crash(nil)
	wantMeets(t, "behind the Crash", d, api.OK, api.OK, api.OK, api.OK, api.OK)
	if slices.ContainsFunc(r.all, func(f api.Fault) bool { return f != fault(4, power) }) {
		t.Errorf("a device has changed a list that it was given")
	}
}

// P10.8: lists that are not armed stay as they are too, with the power on and off.
func TestRefusedArmMemory(t *testing.T) {
	on, off := disk.New(32), disk.New(32)
	powerless(t, off)
	for _, l := range append(noLists(), nil, []api.Fault{fault(5, io), fault(2, io)}) {
		r := newRoom(l, fault(3, io))
		on.Arm(r.list)
		off.Arm(r.list)
		r.wantUnchanged(t, fmt.Sprintf("Arm(%v)", l))
	}
}

// P10.8: keep stays as it is, and is not kept.
func TestCrashMemory(t *testing.T) {
	for _, around := range []bool{true, false} {
		d := disk.New(32)
		for i := range 6 {
			write(t, d, i, full('A'))
		}
		r := newRoom([]bool{true, false, true}, around) // its spare room says nothing of the writes behind
		d.Crash(r.list)
		r.wantUnchanged(t, "Crash")
		r.writeOver(!around)
		for i, x := range []byte{'A', 0, 'A', 0, 0, 0} {
			wantLasts(t, d, i, full(x))
		}
		for i := range 3 {
			write(t, d, 10+i, full('B'))
		}
		d.Crash(nil)
		for i := range 3 {
			wantLasts(t, d, 10+i, full(0))
		}
	}
}

// answers are the lists that a device hands out, one behind the other: reads of what pends and of what lasts, what pends, what lasts.
func answers(d *disk.Disk) (lists [][]byte, pending []api.Pending) {
	for i := range 8 {
		b, _ := d.Read(i)
		lists = append(lists, b)
	}
	lists = append(lists, d.Durable())
	pending = d.Pending()
	for _, w := range pending {
		lists = append(lists, w.Data)
	}
	return lists, pending
}

// some is a device with writes that pend, several to one sector and the same bytes twice.
func some(t *testing.T) *disk.Disk {
	t.Helper()
	d := made(t, image(32))
	for k, i := range []int{3, 4, 3, 31, 0, 3} {
		write(t, d, i, numbered(k/2))
	}
	return d
}

// P10.8: what is answered is written over, its spare room too, without a change of the device.
func TestAnswersWrittenOver(t *testing.T) {
	d := some(t)
	for round := range 3 {
		was := standOf(d)
		lists, pending := answers(d)
		for _, b := range lists {
			spoil(b)
		}
		spoilPending(pending)
		was.done += 8
		wantStand(t, "answers written over", d, was)
		wantRead(t, d, 3, numbered(2))
		wantRead(t, d, 5, numbered(1005))
		if round == 1 {
			flush(t, d)
			write(t, d, 3, numbered(2))
		}
	}
	d.Crash([]bool{true})
	wantLasts(t, d, 3, numbered(2))
	wantLasts(t, d, 4, numbered(0))
	wantLasts(t, d, 5, numbered(1005))
}

// P10.8: no two lists share anything, of one answer or of two, spare room too.
func TestAnswersApart(t *testing.T) {
	d := some(t)
	one, pending := answers(d)
	two, more := answers(d)
	all := append(one, two...)
	for k, b := range all {
		for i := range b[:cap(b)] {
			b[:cap(b)][i] = byte(k)
		}
	}
	for k, b := range all {
		if full := b[:cap(b)]; bytes.Count(full, []byte{byte(k)}) != len(full) {
			t.Errorf("the answer %d shows what was written into another one: %s", k, brief(full))
		}
	}
	spoilPending(pending)
	for k, i := range []int{3, 4, 3, 31, 0, 3} {
		if more[k].Sector != i {
			t.Errorf("an answer of Pending shows what was written into another one: %d at %d", more[k].Sector, k)
		}
	}
}

// P10.8: what is answered is grown without a change of anything else.
func TestAnswersGrown(t *testing.T) {
	d := some(t)
	was := standOf(d)
	was.done += 16
	one, pending := answers(d)
	two, more := answers(d)
	var want [][]byte
	for _, b := range two {
		want = append(want, bytes.Clone(b))
	}
	for range 600 { // one by one, so that the spare room is used where there is some
		for i := range one {
			one[i] = append(one[i], 0x66)
		}
		pending = append(pending, pend(66, nil))
	}
	for i := range two {
		if !bytes.Equal(two[i], want[i]) || !bytes.Equal(one[i], append(want[i], bytes.Repeat([]byte{0x66}, 600)...)) {
			t.Errorf("the answer %d, grown, is changed, or has changed another one", i)
		}
	}
	if len(more) != 6 || len(pending) != 606 || pending[5].Sector != 3 || pending[6].Sector != 66 {
		t.Errorf("the answers of Pending, grown: %d and %d writes", len(more), len(pending))
	}
	wantStand(t, "answers grown", d, was)
}

// P10.8: an elder answer stays as it was, whatever the device does.
func TestElderAnswers(t *testing.T) {
	d := some(t)
	lists, pending := answers(d)
	var want [][]byte
	for _, b := range lists {
		want = append(want, bytes.Clone(b))
	}
	for i := range 32 {
		write(t, d, i, full('X'))
	}
	flush(t, d)
	write(t, d, 3, full('Y'))
	d.Crash([]bool{true})
	for i := range 32 {
		write(t, d, i, full('Z'))
	}
	for i, b := range lists {
		if !bytes.Equal(b, want[i]) {
			t.Errorf("the answer %d has changed behind later calls", i)
		}
	}
	for k, i := range []int{3, 4, 3, 31, 0, 3} {
		if pending[k].Sector != i || !bytes.Equal(pending[k].Data, numbered(k/2)) {
			t.Errorf("the write %d of an elder answer is (%d, %s)", k, pending[k].Sector, brief(pending[k].Data))
		}
	}
}

// P10.8: what one device answers may be handed to it, or to another one, and written over behind that.
func TestAnswersHandedIn(t *testing.T) {
	d := some(t)
	b, _ := d.Read(3)
	write(t, d, 9, b)
	all := d.Durable()
	other := made(t, all)
	spoil(b)
	spoil(all)
	wantRead(t, d, 9, numbered(2))
	wantRead(t, d, 3, numbered(2))
	wantLasts(t, d, 9, numbered(1009))
	wantRead(t, other, 3, numbered(1003))
	write(t, other, 3, full('A'))
	flush(t, other)
	wantLasts(t, d, 3, numbered(1003))
}
