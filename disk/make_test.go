package disk_test

import (
	"bytes"
	"fmt"
	"math"
	"testing"

	"culvert/api"
	"culvert/disk"
)

// P10.1: New takes 32 to 8192 sectors; also none of the numbers whose bytes would wrap into the bounds.
func TestNewBounds(t *testing.T) {
	for _, n := range []int{-1, 0, 1, 31, 8193, 16384, 32 * 512, 8192 * 512, -32, -8192, 1<<55 + 32, 1<<62 + 32, 1<<32 + 32, math.MinInt, math.MinInt + 32, math.MaxInt} {
		if d := disk.New(n); d != nil {
			t.Errorf("New(%d) answers a device", n)
		}
	}
	for _, n := range []int{32, 33, 34, 64, 100, 8191, 8192} {
		d := disk.New(n)
		if d == nil {
			t.Errorf("New(%d) answers none", n)
			continue
		}
		wantStand(t, fmt.Sprintf("New(%d)", n), d, stand{sectors: n, power: true, durable: make([]byte, 512*n)})
	}
}

// P10.1: Image takes whole sectors, 32 to 8192 of them.
func TestImageBounds(t *testing.T) {
	all := image(8194)
	for _, n := range []int{0, 1, 31, 32, 511, 512, 513, 8192, 31 * 512, 31*512 + 511, 32*512 - 1, 32*512 + 1, 32*512 + 256, 32*512 + 511, 33*512 - 1, 33*512 + 1, 8192*512 - 1, 8192*512 + 1, 8192*512 + 511, 8193 * 512, 8194 * 512} {
		if d, e := disk.Image(all[:n]); d != nil || e != api.ErrSectors {
			t.Errorf("Image(%d bytes) = %v, %d, want no device and %d", n, d != nil, e, api.ErrSectors)
		}
	}
	if d, e := disk.Image(nil); d != nil || e != api.ErrSectors {
		t.Errorf("Image(nil) = %v, %d", d != nil, e)
	}
	for _, n := range []int{32, 33, 64, 8191, 8192} {
		d := made(t, all[:n*512])
		wantStand(t, fmt.Sprintf("Image(%d sectors)", n), d, stand{sectors: n, power: true, durable: all[:n*512]})
	}
}

// P10.1: a new device reads what lasts, and nothing is armed.
func TestNewDevice(t *testing.T) {
	for _, n := range []int{32, 33, 8192} {
		zeros, some := disk.New(n), made(t, image(n))
		wantRead(t, zeros, 0, full(0))
		wantRead(t, zeros, n-1, full(0))
		wantNoRead(t, zeros, n, api.ErrSector)
		wantDone(t, zeros, 2)
		for i := range n {
			wantRead(t, some, i, numbered(1000+i))
		}
		wantDone(t, some, n)
		for range 100 {
			flush(t, zeros)
		}
		wantDone(t, zeros, 102)
		if c := zeros.Claim(); c != 1 {
			t.Errorf("the first Claim() = %d", c)
		}
	}
}

// P10.1: all sectors of an image stand where they stood, and each may be written.
func TestWholeImage(t *testing.T) {
	b := image(40)
	d := made(t, b)
	for i := range 40 {
		write(t, d, i, numbered(i))
		wantRead(t, d, i, numbered(i))
		copy(b[i*512:], numbered(i))
		flush(t, d)
		if !bytes.Equal(d.Durable(), b) {
			t.Errorf("behind a Write to the sector %d another one has changed, or this one not", i)
		}
	}
}

// P10.1: Sectors tells n whatever has happened.
func TestSectors(t *testing.T) {
	d := disk.New(77)
	for _, call := range []func(){
		func() { d.Write(76, full('A')) }, func() { d.Flush() }, func() { d.Write(77, full('A')) }, func() { d.Crash([]bool{true}) },
		func() { d.Arm([]api.Fault{fault(1, power)}) }, func() { d.Read(0) }, func() { d.Claim() },
	} {
		call()
		if n := d.Sectors(); n != 77 {
			t.Errorf("Sectors() = %d, want 77", n)
		}
	}
}

// The chapter's examples, row by row.
func TestExamples(t *testing.T) {
	A, B, Z := full(0x41), full(0x42), full(0)
	d := disk.New(32)
	write(t, d, 3, A)
	wantRead(t, d, 3, A)
	wantLasts(t, d, 3, Z)
	write(t, d, 3, B)
	wantPending(t, d, pend(3, A), pend(3, B))
	arm(t, d, fault(2, io))
	flush(t, d)
	wantDone(t, d, 1)
	wantErr(t, "Write", d.Write(4, A), api.ErrIO)
	wantDone(t, d, 2)
	wantPending(t, d)
	write(t, d, 4, A)
	wantErr(t, "Write(32)", d.Write(32, A), api.ErrSector)
	wantErr(t, "Write(-1)", d.Write(-1, A), api.ErrSector)
	wantErr(t, "Write of 511 bytes", d.Write(0, A[:511]), api.ErrLength)
	wantDone(t, d, 3)
	arm(t, d, fault(1, power))
	wantNoRead(t, d, 3, api.ErrPower)
	if d.Power() {
		t.Errorf("Power() = true")
	}
	wantNoRead(t, d, 3, api.ErrPower)
	wantDone(t, d, 1)
	wantErr(t, "Arm at 0", d.Arm([]api.Fault{fault(0, io)}), api.ErrArm)
	wantErr(t, "Arm", d.Arm([]api.Fault{fault(1, io)}), api.ErrPower)
	wantErr(t, "Arm of the kind 3", d.Arm([]api.Fault{fault(1, 3)}), api.ErrArm)
	wantErr(t, "Arm at 2 twice", d.Arm([]api.Fault{fault(2, 1), fault(2, 2)}), api.ErrArm)
	d.Crash(nil)
	wantRead(t, d, 4, Z)
	wantRead(t, d, 3, B)
	wantDone(t, d, 2)
	write(t, d, 5, A)
	write(t, d, 5, B)
	d.Crash([]bool{true})
	wantRead(t, d, 5, A)
	if a, b := d.Claim(), d.Claim(); a != 1 || b != 2 {
		t.Errorf("Claim(), Claim() = %d, %d", a, b)
	}
	d.Crash(nil)
	if c := d.Claimed(); c != 2 {
		t.Errorf("Claimed() = %d", c)
	}
}
