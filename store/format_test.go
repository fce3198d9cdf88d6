package store_test

import (
	"fmt"
	"testing"

	"culvert/api"
	"culvert/disk"
	"culvert/store"
)

// P14.1: Format reads all sectors, writes the first superblock, and makes it last; each operation refused by itself.
func TestFormat(t *testing.T) {
	for _, n := range []int{32, 33, 64} {
		ops := []operation{{1, superFor(n, 1, 1, nil)}, flushing}
		d := disk.New(n)
		want := standOf(d)
		wantErr(t, "Format", store.Format(d), api.OK)
		want.does(ops)
		want.done = n + 2
		wantStand(t, "Format", d, want)
		wantStore(t, "behind Format", d, open(t, d), plain{n, 1, 1, 0, rows{}})
		for k := 1; k <= n+2; k++ {
			for _, kind := range []int{power, io} {
				what := fmt.Sprintf("Format of %d sectors, the operation %d meets %d", n, k, kind)
				d := disk.New(n)
				arm(t, d, fault(k, kind))
				want := standOf(d)
				wantErr(t, what, store.Format(d), errOf(kind))
				want.does(ops[:max(0, k-1-n)])
				want.done, want.power = k, kind != power
				wantStand(t, what, d, want)
			}
		}
	}
}

// P14.1: a device that is not all zeros is read up to the first such sector, and left as it is; what was formatted is not formatted again.
func TestFormatOfWhatIsUsed(t *testing.T) {
	for i := range 32 {
		m := zeros(32)
		m[i][i*16] = 1
		d := made(t, m)
		want := standOf(d)
		want.done = i + 1
		wantErr(t, fmt.Sprintf("Format, the sector %d used", i), store.Format(d), api.ErrUsed)
		wantStand(t, "Format of what is used", d, want)
	}
	d := formatted(t, 32)
	s := open(t, d)
	wantErr(t, "Commit", s.Commit(sets(set("a", "1"))), api.OK)
	wantErr(t, "Format again", store.Format(d), api.ErrUsed)
	wantStore(t, "Format again", d, s, plain{32, 1, 2, 1, rows{"a": "1"}})
}
