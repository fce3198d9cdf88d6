package wal_test

import (
	"bytes"
	"fmt"
	"slices"
	"testing"

	"culvert/api"
	"culvert/disk"
	"culvert/wal"
)

// room is a list in the middle of a longer one, whose bytes ahead and behind are watched too.
type room struct{ all, was, list []byte }

func newRoom(list []byte) *room {
	const wide = 600
	around := bytes.Repeat([]byte{0x77}, wide)
	all := slices.Concat(around, list, around)
	return &room{all, bytes.Clone(all), all[wide : wide+len(list)]}
}

func (r *room) wantUnchanged(t *testing.T, what string) {
	t.Helper()
	if !bytes.Equal(r.all, r.was) {
		t.Errorf("%s has changed its list, or what lies around it", what)
	}
}

// writeOver makes all of it, what lies around too, something else.
func (r *room) writeOver() {
	for i := range r.all {
		r.all[i] ^= 0x5A
	}
}

// spoil writes over all that a caller may write over, the spare room too.
func spoil(b []byte) {
	b = b[:cap(b)]
	for i := range b {
		b[i] ^= 0xA5
	}
}

// P12.7: what Append and Checkpoint are handed is as it was, its spare room too, and is not kept: written over behind the call, it changes nothing on the device.
func TestHandedIn(t *testing.T) {
	for _, n := range []int{1, 479, 480, 481, 960, 961, 1441, 1920} {
		for what, call := range map[string]func(*wal.Log, []byte) api.Errno{"Append": (*wal.Log).Append, "Checkpoint": (*wal.Log).Checkpoint} {
			d := formatted(t, 32)
			l := safe(t, d)
			r := newRoom(counted(n, 3, n))
			wantErr(t, what, call(l, r.list), api.OK)
			r.wantUnchanged(t, what)
			was := standOf(d)
			r.writeOver()
			wantStand(t, what+": the list written over", d, was)
			wantErr(t, "Append", l.Append([]byte("next")), api.OK)
			state, txs := "", []string{string(counted(n, 3, n)), "next"}
			if what == "Checkpoint" {
				state, txs = txs[0], txs[1:]
			}
			wantTold(t, what+": the list written over", d, state, txs...)
		}
	}
}

// P12.7: the same where the call is refused, by the log or by the device at each of its operations: what pends is not the caller's memory.
func TestHandedInAndRefused(t *testing.T) {
	for _, n := range []int{0, 1, 480, 481, 1441, 1920, 1921, 4800, 4801} {
		for what, call := range map[string]func(*wal.Log, []byte) api.Errno{"Append": (*wal.Log).Append, "Checkpoint": (*wal.Log).Checkpoint} {
			for k := range 15 {
				d := formatted(t, 32)
				l := safe(t, d)
				if k == 14 {
					d.Claim()
				}
				arm(t, d, fault(1+k, io))
				r := newRoom(counted(n, 3, n))
				call(l, r.list)
				r.wantUnchanged(t, what)
				was := standOf(d)
				r.writeOver()
				wantStand(t, fmt.Sprintf("%s of %d bytes, refused at %d, the list written over", what, n, k), d, was)
			}
		}
	}
}

// P12.7: one list may be handed in again and again, changed by its owner in between.
func TestOneListForAll(t *testing.T) {
	d := formatted(t, 64)
	l := safe(t, d)
	b := make([]byte, 700)
	var want []string
	for i := range 10 {
		copy(b, counted(i, 5, 700))
		tx := b[:1+i*70]
		want = append(want, string(tx))
		wantErr(t, "Append", l.Append(tx), api.OK)
	}
	clear(b)
	wantTold(t, "one list for all", d, "", want...)
}

// several is a device with a checkpoint and transactions of all kinds.
func several(t *testing.T) (*disk.Disk, []string) {
	t.Helper()
	state := counted(9, 7, 970)
	txs := [][]byte{[]byte("one"), counted(1, 1, 480), counted(2, 1, 481), []byte("one"), counted(3, 1, 970), counted(4, 1, 1440), {5}}
	return made(t, logged(64, 6, 8, state, txs...)), append([]string{string(state)}, texts(txs)...)
}

// answers are the lists that an Open hands out: the string, then the transactions.
func answers(t *testing.T, d *disk.Disk) (*wal.Log, [][]byte, [][]byte) {
	t.Helper()
	l, state, txs, e := wal.Open(d)
	if l == nil || e != api.OK {
		t.Fatalf("Open = %v, %d", l != nil, e)
	}
	return l, append([][]byte{state}, txs...), txs
}

// P12.7: what Open answers is written over, its spare room too, without a change of the device or of the log, or of what a later Open answers.
func TestAnswersWrittenOver(t *testing.T) {
	d, want := several(t)
	for range 3 {
		l, lists, txs := answers(t, d)
		was := standOf(d)
		epoch, seq, place := l.State()
		for _, b := range lists {
			spoil(b)
		}
		txs = txs[:cap(txs)]
		for i := range txs {
			txs[i] = []byte("spoilt")
		}
		wantStand(t, "answers written over", d, was)
		wantLog(t, "answers written over", d, l, epoch, seq, place, 31-place, 31)
		wantTold(t, "answers written over", d, want[0], want[1:]...)
		l = safe(t, d)
		tx := counted(7, 9, 500)
		wantErr(t, "Append", l.Append(tx), api.OK)
		want = append(want, string(tx))
	}
}

// P12.7: no two lists share anything, of one answer or of two, spare room too.
func TestAnswersApart(t *testing.T) {
	d, _ := several(t)
	_, one, _ := answers(t, d)
	_, two, _ := answers(t, d)
	all := append(one, two...)
	for k, b := range all {
		b = b[:cap(b)]
		for i := range b {
			b[i] = byte(k)
		}
	}
	for k, b := range all {
		if whole := b[:cap(b)]; bytes.Count(whole, []byte{byte(k)}) != len(whole) {
			t.Errorf("the answer %d shows what was written into another one", k)
		}
	}
}

// P12.7: what is answered is grown without a change of anything else; the list of transactions too.
func TestAnswersGrown(t *testing.T) {
	d, want := several(t)
	_, one, txs := answers(t, d)
	_, two, more := answers(t, d)
	for range 1000 { // one by one, so that the spare room is used where there is some
		for i := range one {
			one[i] = append(one[i], 0x66)
		}
		txs = append(txs, []byte("more"))
	}
	for i := range one {
		if string(two[i]) != want[i] || string(one[i]) != want[i]+string(bytes.Repeat([]byte{0x66}, 1000)) {
			t.Errorf("the answer %d, grown, is changed, or has changed another one", i)
		}
	}
	if !slices.Equal(texts(more), want[1:]) || len(txs) != len(more)+1000 {
		t.Errorf("the list of transactions, grown, has changed another one")
	}
	wantTold(t, "answers grown", d, want[0], want[1:]...)
}

// P12.7: an elder answer stays as it was, whatever the log and the device do.
func TestElderAnswers(t *testing.T) {
	d, want := several(t)
	l, lists, _ := answers(t, d)
	wantErr(t, "Safe", l.Safe(), api.OK)
	for i := range 5 {
		wantErr(t, "Append", l.Append(counted(i, 1, 600)), api.OK)
		wantErr(t, "Checkpoint", l.Checkpoint(counted(i, 2, 2000)), api.OK)
	}
	for i := range d.Sectors() {
		d.Write(i, make([]byte, size))
	}
	d.Flush()
	if !slices.Equal(texts(lists), want) {
		t.Errorf("an elder answer has changed")
	}
}

// P12.7: what Open answers may be handed in again, and written over behind that.
func TestAnswersHandedIn(t *testing.T) {
	d, want := several(t)
	l, lists, _ := answers(t, d)
	wantErr(t, "Safe", l.Safe(), api.OK)
	wantErr(t, "Append", l.Append(lists[5]), api.OK)
	wantErr(t, "Append", l.Append(lists[1]), api.OK)
	if !slices.Equal(texts(lists), want) {
		t.Errorf("an answer that was handed in has changed")
	}
	for _, b := range lists {
		spoil(b)
	}
	wantTold(t, "answers handed in", d, want[0], append(want[1:], want[5], want[1])...)
	l, lists, _ = answers(t, d)
	wantErr(t, "Safe", l.Safe(), api.OK)
	wantErr(t, "Checkpoint", l.Checkpoint(lists[0]), api.OK)
	spoil(lists[0])
	wantTold(t, "the string handed in", d, want[0])
}

// course is a course of calls on one device, a call at a time, with what each has told.
func course(t *testing.T, seed uint64, n int) func() string {
	s := newSampler(seed)
	d := formatted(t, n)
	l := safe(t, d)
	return func() string {
		b := s.list(s.txLength())
		told := ""
		switch s.IntN(6) {
		case 0:
			d.Arm([]api.Fault{fault(1+s.IntN(5), io)})
			told = fmt.Sprint(l.Append(b))
		case 1:
			told = fmt.Sprint(l.Checkpoint(b[:min(len(b), 1920)]))
		case 2:
			d.Arm(nil)
			log, state, txs, e := wal.Open(d)
			l = log
			told = fmt.Sprint(briefs(append(txs, state)), e, l.Safe())
		default:
			told = fmt.Sprint(l.Append(b))
		}
		epoch, seq, place := l.State()
		return fmt.Sprint(told, epoch, seq, place, l.Left(), l.Room(), standOf(d).String())
	}
}

// P0.4, P12.7: logs over two devices, asked in turns, tell what each tells by itself.
func TestTwoDevices(t *testing.T) {
	const calls = 150
	var alone [3][]string
	for i := range alone {
		next := course(t, uint64(20+i), 32+i)
		for range calls {
			alone[i] = append(alone[i], next())
		}
	}
	var next [3]func() string
	for i := range next {
		next[i] = course(t, uint64(20+i), 32+i)
	}
	for k := range calls {
		for i := range next {
			if got := next[i](); got != alone[i][k] {
				t.Fatalf("the log %d, in turns, tells at %d: %s, want %s", i, k, got, alone[i][k])
			}
		}
	}
	if slices.Equal(alone[0], alone[1]) {
		t.Errorf("two courses are the same: that tries too little")
	}
}
