package disk_test

import (
	"fmt"
	"testing"

	"culvert/api"
	"culvert/disk"
)

// keeps are all lists of up to so many trues and falses.
func keeps(longest int) [][]bool {
	out := [][]bool{nil}
	for from := 0; len(out[from]) < longest; from++ {
		for _, x := range []bool{false, true} {
			out = append(out, append(append([]bool{}, out[from]...), x))
		}
	}
	return out
}

// P10.5: all keeps, shorter than, as long as and longer than what pends, with the power on and off: just those that are kept are laid down, in their order.
func TestCrashKeeps(t *testing.T) {
	writes := []int{3, 4, 3, 5} // two of them to one sector
	for _, keep := range keeps(6) {
		for _, off := range []bool{false, true} {
			d := made(t, image(32))
			want := map[int][]byte{3: numbered(1003), 4: numbered(1004), 5: numbered(1005), 6: numbered(1006)}
			for k, i := range writes {
				write(t, d, i, numbered(k))
				if k < len(keep) && keep[k] {
					want[i] = numbered(k)
				}
			}
			if off {
				powerless(t, d)
			}
			d.Crash(keep)
			for i, b := range want {
				wantLasts(t, d, i, b)
				wantRead(t, d, i, b)
			}
			wantPending(t, d)
		}
	}
}

// P10.5: of two writes to one sector the first one, the second one, both or none are kept.
func TestCrashOfTwoWrites(t *testing.T) {
	for _, c := range []struct {
		keep []bool
		want byte
	}{
		{nil, 'Z'}, {[]bool{}, 'Z'}, {[]bool{false}, 'Z'}, {[]bool{false, false}, 'Z'}, {[]bool{false, false, true}, 'Z'},
		{[]bool{true}, 'A'}, {[]bool{true, false}, 'A'}, {[]bool{true, false, true, true}, 'A'},
		{[]bool{false, true}, 'B'}, {[]bool{true, true}, 'B'}, {[]bool{true, true, true}, 'B'}, {[]bool{false, true, false}, 'B'},
	} {
		d := disk.New(32)
		write(t, d, 8, full('Z'))
		flush(t, d)
		write(t, d, 8, full('A'))
		write(t, d, 8, full('B'))
		d.Crash(c.keep)
		wantRead(t, d, 8, full(c.want))
		wantLasts(t, d, 8, full(c.want))
	}
}

// P10.5: behind a Crash the power is on, whether or not it was off, nothing pends, nothing is armed, and the count is 0; the claim is as it was.
func TestStandBehindCrash(t *testing.T) {
	for _, off := range []bool{false, true} {
		for _, keep := range [][]bool{nil, {false}, {true}, {true, true, true}} {
			d := made(t, image(32))
			d.Claim()
			d.Claim()
			write(t, d, 3, full('A'))
			if off {
				powerless(t, d)
			} else {
				arm(t, d, fault(2, io), fault(3, power))
				wantRead(t, d, 3, full('A'))
			}
			b := image(32)
			if len(keep) > 0 && keep[0] {
				copy(b[3*512:], full('A'))
			}
			d.Crash(keep)
			wantStand(t, fmt.Sprintf("behind Crash(%v)", keep), d, stand{sectors: 32, power: true, claimed: 2, durable: b})
			wantMeets(t, "behind a Crash", d, api.OK, api.OK, api.OK, api.OK, api.OK)
			wantDone(t, d, 5)
		}
	}
}

// P10.5: a Crash where nothing pends loses nothing, whatever is to be kept; one behind another changes nothing.
func TestCrashOfNothing(t *testing.T) {
	d := made(t, image(32))
	write(t, d, 3, full('A'))
	flush(t, d)
	b := image(32)
	copy(b[3*512:], full('A'))
	for _, keep := range keeps(3) {
		d.Crash(keep)
		wantStand(t, "behind a Crash of nothing", d, stand{sectors: 32, power: true, durable: b})
	}
	write(t, d, 4, full('B'))
	d.Crash(nil)
	d.Crash([]bool{true})
	wantStand(t, "behind a second Crash", d, stand{sectors: 32, power: true, durable: b})
}

// P10.5: what a Crash lost does not come back, neither by a Flush nor by another Crash.
func TestLostStaysLost(t *testing.T) {
	d := disk.New(32)
	write(t, d, 1, full('A'))
	write(t, d, 2, full('B'))
	d.Crash([]bool{false, true})
	flush(t, d)
	wantLasts(t, d, 1, full(0))
	wantLasts(t, d, 2, full('B'))
	write(t, d, 3, full('C'))
	d.Crash([]bool{true, true})
	wantLasts(t, d, 1, full(0))
	wantLasts(t, d, 3, full('C'))
}

// P10.5: writes that were refused have no place among those that pend.
func TestCrashCountsWhatPends(t *testing.T) {
	d := disk.New(32)
	arm(t, d, fault(1, io), fault(3, io))
	wantErr(t, "Write", d.Write(1, full('A')), api.ErrIO)
	write(t, d, 2, full('B'))
	wantErr(t, "Write", d.Write(3, full('C')), api.ErrIO)
	wantErr(t, "Write", d.Write(32, full('C')), api.ErrSector)
	write(t, d, 4, full('D'))
	d.Crash([]bool{false, true})
	for i, x := range []byte{0, 0, 0, 0, 'D', 0} {
		wantLasts(t, d, i, full(x))
	}
}

// P10.5: what is longer in keep than what pends is not looked at, very long ones neither.
func TestLongKeep(t *testing.T) {
	d := disk.New(32)
	write(t, d, 1, full('A'))
	keep := make([]bool, 100000)
	for i := range keep {
		keep[i] = i > 0
	}
	d.Crash(keep)
	wantStand(t, "behind a long keep", d, stand{sectors: 32, power: true, durable: make([]byte, 32*512)})
}
