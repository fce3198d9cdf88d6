package wal_test

import (
	"encoding/hex"
	"slices"
	"strings"
	"testing"

	"culvert/api"
	"culvert/disk"
	"culvert/wal"
)

// wantSector holds a sector that lasts against its first bytes and its last four, in hex.
func wantSector(t *testing.T, d *disk.Disk, i int, first, last string) {
	t.Helper()
	b := imageOf(d.Durable())[i]
	first = strings.ReplaceAll(first, " ", "")
	if got := hex.EncodeToString(b[:len(first)/2]); got != first {
		t.Errorf("the sector %d begins with %s, want %s", i, got, first)
	}
	if got := hex.EncodeToString(b[508:]); got != last {
		t.Errorf("the sector %d ends with %s, want %s", i, got, last)
	}
}

// The chapter's examples, row by row: P12.1 to P12.6.
func TestExamples(t *testing.T) {
	for _, c := range []struct{ got, want int }{
		{wal.Need(0), 0}, {wal.Need(480), 1}, {wal.Need(481), 3}, {wal.Need(4800), 11}, {wal.Need(4801), 0},
		{wal.Pieces(0), 0}, {wal.Pieces(480), 1}, {wal.Pieces(481), 2},
	} {
		if c.got != c.want {
			t.Errorf("Need or Pieces = %d, want %d", c.got, c.want)
		}
	}
	d := disk.New(32)
	wantErr(t, "Format(d)", wal.Format(d), api.OK)
	wantDone(t, "Format(d)", d, 34)
	wantErr(t, "Format(d) again", wal.Format(d), api.ErrUsed)
	wantSector(t, d, 1, "43565331 0000000000000001 0000000000000001 00000001 0010 0000 00000020 00000000 00000000 00000000", "e9acee74")

	d.Crash(nil)
	l := wantTold(t, "Open(d)", d, "")
	wantDone(t, "Open(d)", d, 3)
	wantLog(t, "Open(d)", d, l, 1, 1, 0, 15, 15)
	wantErr(t, "l.Append(abc)", l.Append([]byte("abc")), api.ErrEnded)
	wantErr(t, "l.Safe()", l.Safe(), api.OK)
	wantErr(t, "l.Safe()", l.Safe(), api.OK)
	wantDone(t, "one operation in all", d, 4)
	wantErr(t, "l.Append(abc)", l.Append([]byte("abc")), api.OK)
	wantLog(t, "behind abc", d, l, 1, 2, 1, 14, 15)
	wantSector(t, d, 17, "43564f31 0000000000000001 0000000000000001 00000000 0003 0000 616263 00", "bd59a75c")
	arm(t, d)
	wantErr(t, "l.Append(481 bytes)", l.Append(make([]byte, 481)), api.OK)
	wantDone(t, "l.Append(481 bytes)", d, 5)
	wantLog(t, "behind 481 bytes", d, l, 1, 3, 4, 11, 15)
	wantSector(t, d, 20, "43564331 0000000000000001 0000000000000002 00000003 000a 0000 0002 000001e1 f2c2a28c 0000", "147f3d23")
	wantErr(t, "l.Append(nothing)", l.Append(nil), api.ErrTxBig)
	wantErr(t, "l.Append(4801 bytes)", l.Append(make([]byte, 4801)), api.ErrTxBig)
	wantErr(t, "l.Append(4800 bytes)", l.Append(make([]byte, 4800)), api.OK)
	wantErr(t, "l.Checkpoint(1921 bytes)", l.Checkpoint(make([]byte, 1921)), api.ErrFull)
	wantLog(t, "behind 4800 bytes", d, l, 1, 4, 15, 0, 15)

	m := wantTold(t, "m := Open(d)", d, "", "abc", string(make([]byte, 481)), string(make([]byte, 4800)))
	wantErr(t, "m.Safe()", m.Safe(), api.OK)
	wantLog(t, "l behind m", d, l, 0, 0, 0, 0, 0)
	wantErr(t, "l.Append(x)", l.Append([]byte("x")), api.ErrEnded)
	wantErr(t, "m.Append(x)", m.Append([]byte("x")), api.ErrFull)
	wantErr(t, "m.Checkpoint(s)", m.Checkpoint([]byte("s")), api.OK)
	wantLog(t, "behind the checkpoint", d, m, 2, 4, 1, 14, 15)
	wantSector(t, d, 0, "43565331 0000000000000002 0000000000000004 00000000 0010 0000 00000020 00000001 00000001 30b5f4a8", "2f96e325")
	wantTold(t, "Open(d)", d, "s")
}

// The limits are those of the document.
func TestLimits(t *testing.T) {
	if api.SectorSize != size || api.BodySize != bodySize || api.MaxTx != maxTx || api.MaxSeq != maxSeq || api.FaultPower != power || api.FaultIO != io {
		t.Errorf("the limits are others")
	}
	if !slices.Equal([]string{api.TagSuper, api.TagPiece, api.TagEnd, api.TagOne}, []string{"CVS1", "CVD1", "CVC1", "CVO1"}) {
		t.Errorf("the tags are others")
	}
}
