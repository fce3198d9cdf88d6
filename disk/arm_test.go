package disk_test

import (
	"fmt"
	"math"
	"testing"

	"culvert/api"
	"culvert/disk"
)

// meets are the answers of the next operations, of all three kinds in turn, until the power fails.
func meets(d *disk.Disk, many int) []api.Errno {
	ops := operations()
	var out []api.Errno
	for k := range many {
		e := ops[k%len(ops)].call(d)
		out = append(out, e)
		if e == api.ErrPower {
			break
		}
	}
	return out
}

func wantMeets(t *testing.T, what string, d *disk.Disk, want ...api.Errno) {
	t.Helper()
	if got := meets(d, len(want)); fmt.Sprint(got) != fmt.Sprint(want) {
		t.Errorf("%s: the operations answer %v, want %v", what, got, want)
	}
}

// P10.4: the At-th of the next operations meets it, just once, whatever the order of the list.
func TestArm(t *testing.T) {
	const ok, fails, off = api.OK, api.ErrIO, api.ErrPower
	for _, c := range []struct {
		l    []api.Fault
		want []api.Errno
	}{
		{nil, []api.Errno{ok, ok, ok, ok}},
		{[]api.Fault{fault(1, io)}, []api.Errno{fails, ok, ok, ok, ok}},
		{[]api.Fault{fault(1, power)}, []api.Errno{off}},
		{[]api.Fault{fault(3, io)}, []api.Errno{ok, ok, fails, ok, ok}},
		{[]api.Fault{fault(4, power)}, []api.Errno{ok, ok, ok, off}},
		{[]api.Fault{fault(1, io), fault(2, io), fault(3, io)}, []api.Errno{fails, fails, fails, ok, ok}},
		{[]api.Fault{fault(3, io), fault(1, io), fault(2, power)}, []api.Errno{fails, off}},
		{[]api.Fault{fault(5, power), fault(2, io)}, []api.Errno{ok, fails, ok, ok, off}},
		{[]api.Fault{fault(6, io), fault(2, io), fault(4, io), fault(7, power)}, []api.Errno{ok, fails, ok, fails, ok, fails, off}},
		{[]api.Fault{fault(1000, power), fault(math.MaxInt, io)}, []api.Errno{ok, ok, ok, ok, ok}},
	} {
		d := disk.New(32)
		arm(t, d, c.l...)
		wantMeets(t, fmt.Sprint(c.l), d, c.want...)
		wantDone(t, d, len(c.want))
	}
}

// P10.4: each At alone, each kind, under each operation.
func TestArmOne(t *testing.T) {
	for _, op := range operations() {
		for at := 1; at <= 20; at++ {
			for kind, want := range map[int]api.Errno{power: api.ErrPower, io: api.ErrIO} {
				d := disk.New(32)
				arm(t, d, fault(at, kind))
				for k := 1; k < at; k++ {
					wantErr(t, op.name, op.call(d), api.OK)
				}
				wantErr(t, fmt.Sprintf("%s, the operation %d", op.name, at), op.call(d), want)
				if on := d.Power(); on != (kind != power) {
					t.Errorf("behind the kind %d: Power() = %v", kind, on)
				}
			}
		}
	}
}

// P10.4: a long list in which every second operation is armed, from behind.
func TestArmMany(t *testing.T) {
	d := disk.New(32)
	var l []api.Fault
	const many = 1000
	for at := many; at > 0; at -= 2 {
		l = append(l, fault(at, io))
	}
	arm(t, d, l...)
	for at := 1; at <= many+2; at++ {
		want := api.OK
		if at%2 == 0 && at <= many {
			want = api.ErrIO
		}
		wantErr(t, fmt.Sprintf("the operation %d", at), d.Flush(), want)
	}
}

// P10.4: Arm counts from 0 anew, and leaves all else.
func TestArmCounts(t *testing.T) {
	d := made(t, image(32))
	write(t, d, 3, full('A'))
	d.Claim()
	was := standOf(d)
	was.done = 0
	for _, l := range [][]api.Fault{{fault(4, io)}, nil, {}, {fault(1, power), fault(9, power)}} {
		wantErr(t, "Arm", d.Arm(l), api.OK)
		wantStand(t, "behind Arm", d, was)
	}
}

// P10.4: what was armed ahead is gone, met already or not; an empty list arms nothing.
func TestArmAnew(t *testing.T) {
	d := disk.New(32)
	arm(t, d, fault(1, io), fault(2, power), fault(3, io))
	arm(t, d, fault(3, io))
	wantMeets(t, "armed over", d, api.OK, api.OK, api.ErrIO, api.OK)
	arm(t, d, fault(2, io), fault(4, power))
	wantMeets(t, "the first ones", d, api.OK, api.ErrIO)
	arm(t, d, fault(3, io))
	wantMeets(t, "armed over in between", d, api.OK, api.OK, api.ErrIO, api.OK, api.OK)
	for _, none := range [][]api.Fault{nil, {}} {
		arm(t, d, fault(1, power))
		arm(t, d, none...)
		wantMeets(t, "an empty list", d, api.OK, api.OK, api.OK)
		wantDone(t, d, 3)
	}
	l := []api.Fault{fault(1, io)}
	for range 3 { // the same list again
		arm(t, d, l...)
		wantMeets(t, "armed again", d, api.ErrIO, api.OK)
	}
}

// noLists can not be armed.
func noLists() [][]api.Fault {
	out := [][]api.Fault{
		{fault(2, power), fault(2, io)}, {fault(2, io), fault(2, io)}, {fault(1, io), fault(1, io)},
		{fault(2, io), fault(5, io), fault(2, power)}, {fault(1, io), fault(2, io), fault(3, io), fault(1, io)},
		{fault(math.MaxInt, io), fault(math.MaxInt, power)}, {fault(3, power), fault(3, power), fault(3, power)},
		{fault(0, 3), fault(0, 3)}, {fault(-1, io), fault(-1, io)},
	}
	for _, at := range []int{0, -1, -2, math.MinInt, -math.MaxInt} {
		out = append(out, []api.Fault{fault(at, io)}, []api.Fault{fault(at, power)}, []api.Fault{fault(at, 0)})
		out = append(out, []api.Fault{fault(1, io), fault(at, io)}, []api.Fault{fault(at, io), fault(1, io)}, []api.Fault{fault(1, io), fault(at, power), fault(2, io)})
	}
	for _, kind := range []int{0, 3, -1, 4, 257, 258, 1<<32 + 1, 1<<32 + 2, math.MinInt, math.MaxInt} {
		out = append(out, []api.Fault{fault(1, kind)}, []api.Fault{fault(7, kind)})
		out = append(out, []api.Fault{fault(1, io), fault(2, kind)}, []api.Fault{fault(2, kind), fault(1, io)}, []api.Fault{fault(1, io), fault(2, kind), fault(3, power)})
	}
	return out
}

// P10.4: a list that can not be armed leaves what was armed, and the count.
func TestNoArm(t *testing.T) {
	for _, l := range noLists() {
		d := made(t, image(32))
		write(t, d, 3, full('A'))
		arm(t, d, fault(2, io), fault(4, io), fault(5, power))
		flush(t, d)
		wantErr(t, "Write", d.Write(3, full('B')), api.ErrIO)
		was := standOf(d)
		wantErr(t, fmt.Sprintf("Arm(%v)", l), d.Arm(l), api.ErrArm)
		wantStand(t, "behind a refused Arm", d, was)
		wantMeets(t, "what was armed", d, api.OK, api.ErrIO, api.ErrPower)
	}
}

// P10.4: where nothing was armed, a list that can not be armed arms nothing, the good part of it neither.
func TestNoArmOfTheRest(t *testing.T) {
	for _, l := range noLists() {
		d := disk.New(32)
		wantErr(t, fmt.Sprintf("Arm(%v)", l), d.Arm(l), api.ErrArm)
		wantMeets(t, "nothing armed", d, api.OK, api.OK, api.OK, api.OK, api.OK, api.OK, api.OK, api.OK)
	}
}

// P10.4: ErrArm is told ahead of ErrPower; with the power off nothing is armed, and nothing changes.
func TestArmWithoutPower(t *testing.T) {
	d := made(t, image(32))
	write(t, d, 3, full('A'))
	powerless(t, d)
	was := standOf(d)
	for _, l := range noLists() {
		wantErr(t, fmt.Sprintf("Arm(%v)", l), d.Arm(l), api.ErrArm)
	}
	for _, l := range [][]api.Fault{nil, {}, {fault(1, io)}, {fault(1, power)}, {fault(3, io), fault(2, power)}} {
		wantErr(t, fmt.Sprintf("Arm(%v)", l), d.Arm(l), api.ErrPower)
	}
	wantStand(t, "behind refused Arms", d, was)
	d.Crash(nil)
	wantMeets(t, "behind the Crash", d, api.OK, api.OK, api.OK, api.OK)
}

// P10.4: Kinds 0 to 3 and Ats -1 to 1, all of them.
func TestArmEdges(t *testing.T) {
	for at := -1; at <= 1; at++ {
		for kind := 0; kind <= 3; kind++ {
			want := api.ErrArm
			if at == 1 && (kind == 1 || kind == 2) {
				want = api.OK
			}
			wantErr(t, fmt.Sprintf("Arm({%d, %d})", at, kind), disk.New(32).Arm([]api.Fault{fault(at, kind)}), want)
		}
	}
}
