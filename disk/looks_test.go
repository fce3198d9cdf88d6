package disk_test

import (
	"fmt"
	"testing"

	"culvert/api"
	"culvert/disk"
)

// P10.6: the looks tell the same when they are asked again, count nothing, and use up nothing that is armed; with the power off too.
func TestLooksChangeNothing(t *testing.T) {
	d := made(t, image(32))
	write(t, d, 3, full('A'))
	write(t, d, 3, full('B'))
	d.Claim()
	arm(t, d, fault(2, io), fault(4, power))
	want := stand{32, true, 0, 1, []api.Pending{pend(3, full('A')), pend(3, full('B'))}, image(32)}
	for k, e := range []api.Errno{api.OK, api.ErrIO, api.OK, api.ErrPower, api.ErrPower} {
		for range 3 {
			wantStand(t, fmt.Sprintf("ahead of the operation %d", k+1), d, want)
		}
		_, got := d.Read(0)
		wantErr(t, fmt.Sprintf("the operation %d", k+1), got, e)
		want.done, want.power = min(k+1, 4), k < 3
	}
	for range 3 {
		wantStand(t, "with the power off", d, want)
	}
	d.Crash(nil)
	wantStand(t, "behind the Crash", d, stand{32, true, 0, 1, nil, image(32)})
}

// P10.6: Power is off from the operation on that the power fails at, till a Crash; ErrIO leaves it.
func TestPower(t *testing.T) {
	d := disk.New(32)
	wantPower := func(want bool) {
		t.Helper()
		if d.Power() != want || d.Power() != want {
			t.Errorf("Power() is not %v twice", want)
		}
	}
	arm(t, d, fault(1, io), fault(3, power))
	wantPower(true)
	d.Flush()
	wantPower(true)
	d.Flush()
	wantPower(true)
	d.Flush()
	wantPower(false)
	d.Flush()
	d.Arm(nil)
	d.Claim()
	wantPower(false)
	d.Crash(nil)
	wantPower(true)
}

// P10.6: Done counts since the latest Arm that answered OK, Crash or making, whichever came last.
func TestDone(t *testing.T) {
	d := disk.New(32)
	wantDone(t, d, 0)
	write(t, d, 0, full('A'))
	wantRead(t, d, 0, full('A'))
	flush(t, d)
	wantDone(t, d, 3)
	wantErr(t, "Arm", d.Arm([]api.Fault{fault(0, io)}), api.ErrArm)
	wantDone(t, d, 3)
	arm(t, d)
	wantDone(t, d, 0)
	flush(t, d)
	wantDone(t, d, 1)
	d.Crash(nil)
	wantDone(t, d, 0)
	flush(t, d)
	flush(t, d)
	wantDone(t, d, 2)
	arm(t, d, fault(2, power))
	flush(t, d)
	wantErr(t, "Flush", d.Flush(), api.ErrPower)
	wantErr(t, "Arm", d.Arm(nil), api.ErrPower)
	wantErr(t, "Flush", d.Flush(), api.ErrPower)
	wantDone(t, d, 2)
	d.Crash(nil)
	wantDone(t, d, 0)
}

// P10.6: Durable tells all sectors one behind the other, of what pends nothing.
func TestDurable(t *testing.T) {
	d := made(t, image(33))
	for i := range 33 {
		write(t, d, i, numbered(i))
	}
	for i := range 33 {
		wantLasts(t, d, i, numbered(1000+i))
	}
	flush(t, d)
	for i := range 33 {
		wantLasts(t, d, i, numbered(i))
	}
}

// P10.7: each Claim is one more, between all other calls, with the power off too; no operation and no Crash changes it, and it changes nothing else.
func TestClaims(t *testing.T) {
	d := disk.New(32)
	claims := 0
	for _, c := range []struct {
		name string
		call func()
	}{
		{"New", func() {}},
		{"Write", func() { d.Write(3, full('A')) }},
		{"a Write to no sector", func() { d.Write(32, full('A')) }},
		{"Read", func() { d.Read(3) }},
		{"Flush", func() { d.Flush() }},
		{"Arm", func() { d.Arm([]api.Fault{fault(1, io), fault(3, power)}) }},
		{"ErrIO", func() { d.Flush() }},
		{"a Write behind it", func() { d.Write(3, full('B')) }},
		{"a refused Arm", func() { d.Arm([]api.Fault{fault(0, io)}) }},
		{"ErrPower", func() { d.Flush() }},
		{"a Read without power", func() { d.Read(3) }},
		{"an Arm without power", func() { d.Arm(nil) }},
		{"Crash", func() { d.Crash([]bool{true}) }},
		{"another Crash", func() { d.Crash(nil) }},
	} {
		c.call()
		was := standOf(d)
		if n := d.Claimed(); n != claims || d.Claimed() != n {
			t.Errorf("behind %s: Claimed() = %d, want %d", c.name, n, claims)
		}
		for range 2 {
			claims++
			if n := d.Claim(); n != claims {
				t.Errorf("behind %s: Claim() = %d, want %d", c.name, n, claims)
			}
		}
		was.claimed = claims
		wantStand(t, "behind claims behind "+c.name, d, was)
	}
}

// P10.7: a claim is no operation: what is armed waits on.
func TestClaimMeetsNothing(t *testing.T) {
	d := disk.New(32)
	arm(t, d, fault(1, io), fault(2, power))
	d.Claim()
	d.Claimed()
	wantErr(t, "Flush", d.Flush(), api.ErrIO)
	d.Claim()
	wantErr(t, "Flush", d.Flush(), api.ErrPower)
	wantDone(t, d, 2)
	if n := d.Claim(); n != 3 || d.Power() {
		t.Errorf("Claim() without power = %d, Power() = %v", n, d.Power())
	}
}
