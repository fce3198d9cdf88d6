package disk_test

import (
	"bytes"
	"fmt"
	"reflect"
	"testing"

	"culvert/api"
	"culvert/disk"
)

// stand is all that the looks tell of a device.
type stand struct {
	sectors       int
	power         bool
	done, claimed int
	pending       []api.Pending
	durable       []byte
}

func standOf(d *disk.Disk) stand {
	pending := d.Pending()
	if len(pending) == 0 {
		pending = nil // nil and the empty list are the same
	}
	return stand{d.Sectors(), d.Power(), d.Done(), d.Claimed(), pending, d.Durable()}
}

// String is short: of a sector just the first bytes, of what lasts the sectors that are not zeros.
func (s stand) String() string {
	text := fmt.Sprintf("%d sectors, power %v, done %d, claimed %d, pending", s.sectors, s.power, s.done, s.claimed)
	for _, w := range s.pending {
		text += fmt.Sprintf(" (%d, %s)", w.Sector, brief(w.Data))
	}
	text += ", durable"
	for i := 0; i+size <= len(s.durable); i += size {
		if b := s.durable[i : i+size]; !bytes.Equal(b, full(0)) {
			text += fmt.Sprintf(" (%d, %s)", i/size, brief(b))
		}
	}
	return text
}

func brief(b []byte) string {
	if len(b) <= 4 {
		return fmt.Sprintf("%x", b)
	}
	return fmt.Sprintf("%x.. of %d", b[:4], len(b))
}

func wantStand(t *testing.T, what string, d *disk.Disk, want stand) {
	t.Helper()
	if got := standOf(d); !reflect.DeepEqual(got, want) {
		t.Errorf("%s: the device stands: %v, want: %v", what, got, want)
	}
}

func wantErr(t *testing.T, what string, got, want api.Errno) {
	t.Helper()
	if got != want {
		t.Errorf("%s = %d, want %d", what, got, want)
	}
}

func wantDone(t *testing.T, d *disk.Disk, want int) {
	t.Helper()
	if got := d.Done(); got != want {
		t.Errorf("Done() = %d, want %d", got, want)
	}
}

func wantRead(t *testing.T, d *disk.Disk, i int, want []byte) {
	t.Helper()
	if b, e := d.Read(i); e != api.OK || !bytes.Equal(b, want) {
		t.Errorf("Read(%d) = %s, %d, want %s", i, brief(b), e, brief(want))
	}
}

func wantNoRead(t *testing.T, d *disk.Disk, i int, want api.Errno) {
	t.Helper()
	if b, e := d.Read(i); len(b) != 0 || e != want {
		t.Errorf("Read(%d) = %s, %d, want no bytes and %d", i, brief(b), e, want)
	}
}

func wantLasts(t *testing.T, d *disk.Disk, i int, want []byte) {
	t.Helper()
	b := d.Durable()
	if len(b) != d.Sectors()*size || !bytes.Equal(b[i*size:(i+1)*size], want) {
		t.Errorf("Durable() at the sector %d is not %s, or has not %d sectors", i, brief(want), d.Sectors())
	}
}

func wantPending(t *testing.T, d *disk.Disk, want ...api.Pending) {
	t.Helper()
	if got := d.Pending(); len(got)+len(want) > 0 && !reflect.DeepEqual(got, want) {
		t.Errorf("Pending() = %v, want %v", stand{pending: got}, stand{pending: want})
	}
}

func pend(i int, data []byte) api.Pending { return api.Pending{Sector: i, Data: data} }

func write(t *testing.T, d *disk.Disk, i int, b []byte) {
	t.Helper()
	wantErr(t, fmt.Sprintf("Write(%d, %s)", i, brief(b)), d.Write(i, b), api.OK)
}

func flush(t *testing.T, d *disk.Disk) {
	t.Helper()
	wantErr(t, "Flush()", d.Flush(), api.OK)
}

func arm(t *testing.T, d *disk.Disk, l ...api.Fault) {
	t.Helper()
	wantErr(t, fmt.Sprintf("Arm(%v)", l), d.Arm(l), api.OK)
}

func fault(at, kind int) api.Fault { return api.Fault{At: at, Kind: kind} }

// made is a device of these bytes.
func made(t *testing.T, b []byte) *disk.Disk {
	t.Helper()
	d, e := disk.Image(b)
	if d == nil || e != api.OK {
		t.Fatalf("Image(%d bytes) = %v, %d", len(b), d, e)
	}
	return d
}

// powerless takes a device's power by an operation that the power fails at.
func powerless(t *testing.T, d *disk.Disk) {
	t.Helper()
	arm(t, d, fault(1, power))
	wantErr(t, "Flush() where the power fails", d.Flush(), api.ErrPower)
}

// operation is one of the three, in a form that may be.
type operation struct {
	name string
	call func(d *disk.Disk) api.Errno
}

func operations() []operation {
	return []operation{
		{"Read", func(d *disk.Disk) api.Errno {
			_, e := d.Read(3)
			return e
		}},
		{"Write", func(d *disk.Disk) api.Errno { return d.Write(3, full('O')) }},
		{"Flush", func(d *disk.Disk) api.Errno { return d.Flush() }},
	}
}
