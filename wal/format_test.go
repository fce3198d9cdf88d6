package wal_test

import (
	"fmt"
	"testing"

	"culvert/api"
	"culvert/disk"
	"culvert/wal"
)

// formatting are the writes and the flush of a Format.
func formatting(n int) []operation {
	return []operation{{1, sec("CVS1", 1, 1, 1, superBody(n, 0, 0, 0))}, flushing}
}

// P12.1: a device of zeros: all its sectors are read, the superblock of the epoch 1 is written, and flushed. No claim is taken.
func TestFormat(t *testing.T) {
	for _, n := range []int{32, 33, 34, 35, 63, 64, 100, 1000, 8191, 8192} {
		d := disk.New(n)
		want := standOf(d)
		wantErr(t, "Format", wal.Format(d), api.OK)
		want.does(formatting(n))
		want.done = n + 2
		wantStand(t, fmt.Sprintf("Format of %d sectors", n), d, want)
		wantOpen(t, "behind Format", imageOf(d.Durable()), opened{epoch: 1, seq: 1, reads: []int{0, 1, 2 + (n-2)/2}})
	}
}

// P12.1: a Format again is refused, and changes nothing.
func TestFormatTwice(t *testing.T) {
	d := formatted(t, 32)
	arm(t, d)
	want := standOf(d)
	wantErr(t, "Format again", wal.Format(d), api.ErrUsed)
	want.done = 2
	wantStand(t, "Format again", d, want)
}

// P12.1: one bit that is not zero, in any sector: it is the last that is read, and nothing is written.
func TestFormatOfUsedDevices(t *testing.T) {
	for _, n := range []int{32, 33} {
		for at := range n {
			for _, i := range []int{0, 1, 255, 256, 508, 511} {
				m := zeros(n)
				m[at][i] = 1 << (i % 8)
				d := made(t, m)
				want := standOf(d)
				what := fmt.Sprintf("Format of %d sectors, the sector %d is not zero at %d", n, at, i)
				wantErr(t, what, wal.Format(d), api.ErrUsed)
				want.done = at + 1
				wantStand(t, what, d, want)
			}
		}
	}
}

// P12.1: each byte of a sector by itself.
func TestFormatOfOneByte(t *testing.T) {
	for i := range size {
		m := zeros(32)
		m[7][i] = byte(1 + i%255)
		d := made(t, m)
		wantErr(t, fmt.Sprintf("Format, the byte %d", i), wal.Format(d), api.ErrUsed)
		wantDone(t, "Format", d, 8)
	}
}

// P12.1: what is read counts, not what lasts: a write that pends makes a device used, or zeros again.
func TestFormatOfPendingWrites(t *testing.T) {
	d := disk.New(32)
	d.Write(20, sec("CVO1", 1, 1, 1, nil))
	arm(t, d)
	want := standOf(d)
	wantErr(t, "Format where a write pends", wal.Format(d), api.ErrUsed)
	want.done = 21
	wantStand(t, "Format where a write pends", d, want)

	m := zeros(32)
	m[20][3] = 9
	d = made(t, m)
	d.Write(20, make([]byte, size))
	arm(t, d)
	want = standOf(d)
	wantErr(t, "Format where zeros pend", wal.Format(d), api.OK)
	want.does(formatting(32))
	want.done = 34
	wantStand(t, "Format where zeros pend", d, want)
}

// P12.1: each operation refused by itself; what was done ahead of it has been done.
func TestFormatRefused(t *testing.T) {
	for _, n := range []int{32, 33} {
		for k := 1; k <= n+3; k++ {
			for _, kind := range []int{power, io} {
				d := disk.New(n)
				arm(t, d, fault(k, kind))
				want := standOf(d)
				what := fmt.Sprintf("Format of %d sectors, the operation %d meets %d", n, k, kind)
				if k > n+2 {
					wantErr(t, what, wal.Format(d), api.OK)
					want.does(formatting(n))
					want.done = n + 2
					wantStand(t, what, d, want)
					continue
				}
				wantErr(t, what, wal.Format(d), errOf(kind))
				want.does(formatting(n)[:max(0, k-n-1)])
				want.done, want.power = k, kind != power
				wantStand(t, what, d, want)
			}
		}
	}
}

// P12.1: a sector that is not zero ahead of a refusal, and behind it.
func TestFormatUsedAndRefused(t *testing.T) {
	for at := range 6 {
		m := zeros(32)
		m[3][500] = 1
		d := made(t, m)
		arm(t, d, fault(at+1, io))
		want := api.ErrIO
		if at > 3 {
			want = api.ErrUsed
		}
		wantErr(t, fmt.Sprintf("the read of the sector %d is refused", at), wal.Format(d), want)
		wantDone(t, "Format", d, min(at, 3)+1)
	}
}

// P12.1: with the power off nothing is done.
func TestFormatWithoutPower(t *testing.T) {
	d := disk.New(32)
	arm(t, d, fault(1, power))
	d.Flush()
	want := standOf(d)
	wantErr(t, "Format without power", wal.Format(d), api.ErrPower)
	wantStand(t, "Format without power", d, want)
}

// P12.1: a Format that is refused is made again once the device is of zeros: behind a Crash that keeps nothing.
func TestFormatAgainBehindACrash(t *testing.T) {
	d := disk.New(32)
	arm(t, d, fault(34, power))
	wantErr(t, "Format", wal.Format(d), api.ErrPower)
	d.Crash(nil)
	wantNoLog(t, "behind the crash", d, api.ErrNoStore)
	wantErr(t, "Format", wal.Format(d), api.OK)
	wantTold(t, "behind Format", d, "")
}
