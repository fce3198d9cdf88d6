package audit_test

import (
	"bytes"
	"fmt"
	"slices"
	"testing"

	"culvert/api"
)

// soundBytes are those of a few devices: one that is new, one behind its first transactions, one behind two checkpoints, with what elder epochs have left in both regions, and one behind a transaction and a checkpoint that were given up.
func soundBytes(t *testing.T) map[string][]byte {
	t.Helper()
	out := map[string][]byte{"a new device": formatted(t, 33).Durable()}
	d := formatted(t, 32)
	n := boot(t, d, params(1, 64))
	for i := range 60 {
		link := i%3 + 1
		l := []api.Change{add(link, key(link), 0), add(link+5, key(link+5), 1), allow(link, fmt.Sprintf("10.%d.0.0/16", link))}
		if i/3%2 > 0 {
			l = []api.Change{remove(link), remove(link + 5)}
		}
		wantErr(t, "Commit", n.Commit(l), api.OK)
		if i == 0 {
			out["a device that is young"] = d.Durable()
		}
	}
	out["a device that is old"] = d.Durable()
	// The power is lost in the midst of a checkpoint: its pieces are there, its superblock is not.
	for i := 0; plainPlace(imageOf(d.Durable())) < 15; i++ {
		wantErr(t, "Commit", n.Commit([]api.Change{[]api.Change{add(9, key(9), 0), remove(9)}[i%2]}), api.OK)
	}
	arm(t, d, fault(4, power))
	if _, e := n.Rekey(1); e != api.ErrNoPeer {
		t.Fatalf("Rekey = %d", e)
	}
	wantErr(t, "Commit", n.Commit([]api.Change{add(1, key(1), 0)}), api.ErrDevice)
	d.Crash([]bool{true, true})
	out["a device behind a crash"] = d.Durable()
	return out
}

// P24.6: of sound bytes one byte turned, wherever it stands: there is a line, that of the sector in which it stands.
func TestOneByte(t *testing.T) {
	t.Parallel()
	all := soundBytes(t)
	for _, what := range []string{"a new device", "a device that is old", "a device behind a crash"} {
		b := all[what]
		for part := range 3 {
			t.Run(fmt.Sprint(what, " ", part), func(t *testing.T) {
				t.Parallel()
				wantSound(t, what, b)
				hit := bytes.Clone(b)
				for i := part; i < len(b); i += 3 {
					// Into another byte of all, the one beside it, zero: by turns.
					with := []byte{0xFF, 1, b[i], 0x80, byte(i%255) + 1}[i/3%5]
					if with == 0 {
						with = 0x10
					}
					hit[i] ^= with
					wantLineOf(t, what, hit, i/size)
					hit[i] = b[i]
				}
			})
		}
	}
}

// P24.6: some bytes turned into each of all others.
func TestOneByteIntoEach(t *testing.T) {
	t.Parallel()
	for what, b := range soundBytes(t) {
		t.Run(what, func(t *testing.T) {
			t.Parallel()
			hit := bytes.Clone(b)
			for _, i := range []int{0, 3, 11, 20, 511, 512, 512 + 27, 2*size + 40, 17*size + 26, 17*size + 508, 18*size + 300, len(b) - 1} {
				for with := 1; with < 256; with++ {
					hit[i] ^= byte(with)
					wantLineOf(t, what, hit, i/size)
					hit[i] = b[i]
				}
			}
		})
	}
}

func wantLineOf(t *testing.T, what string, b []byte, sector int) {
	t.Helper()
	line := fmt.Sprintf("sector %d", sector)
	if sector < 2 {
		line = fmt.Sprintf("super %d", sector)
	}
	if got := checkOf(b); got.err != api.OK || !slices.Contains(got.lines, line) {
		t.Fatalf("%s, a byte of the sector %d turned: Check = %q, %d", what, sector, got.lines, got.err)
	}
}
