package audit_test

import (
	"testing"

	"culvert/api"
	"culvert/disk"
	"culvert/store"
)

// The chapter's examples, said outright.
func TestExamples(t *testing.T) {
	t.Parallel()
	for _, n := range []int{10, 16383, 16385} {
		if got := checkOf(make([]byte, n)); !got.same(checked{err: errSectors}) {
			t.Errorf("Check(%d bytes) = %v", n, got)
		}
		wantState(t, "bytes of no device", make([]byte, n), state{err: errSectors})
	}
	zeros := make([]byte, 16384)
	wantLines(t, "16,384 bytes 0", zeros, "state 110")
	wantState(t, "16,384 bytes 0", zeros, state{err: errNoStore})

	d := disk.New(32)
	wantErr(t, "Format", store.Format(d), api.OK)
	b := d.Durable()
	wantLines(t, "a device behind Format", b)
	wantState(t, "a device behind Format", b, state{})
	b[2569] = 1
	wantLines(t, "the byte 2,569 turned into 1", b, "sector 5")
	b = d.Durable()
	b[520]++
	wantLines(t, "the byte 520 turned", b, "super 1", "state 110")

	n := boot(t, d, params(8, 64))
	wantErr(t, "Commit", n.Commit([]api.Change{add(7, key(1), 0)}), api.OK)
	wantLines(t, "a device behind a Boot and a Commit", d.Durable())
	wantState(t, "a device behind a Boot and a Commit", d.Durable(), state{peers: []api.Peer{{Link: 7, Key: key(1)}}, lanes: []api.Lane{{Key: key(1), Cur: 1}}, boots: 1})
}
