package wal_test

import (
	"fmt"
	"slices"
	"testing"

	"culvert/api"
	"culvert/disk"
	"culvert/wal"
)

// ready makes a device of these sectors with a log that is safe.
func ready(t *testing.T, m image) func() (*disk.Disk, *wal.Log) {
	return func() (*disk.Disk, *wal.Log) {
		t.Helper()
		d := made(t, m)
		return d, safe(t, d)
	}
}

// appends is an Append as a call.
func appends(tx []byte) func(*wal.Log) api.Errno {
	return func(l *wal.Log) api.Errno { return l.Append(tx) }
}

func checkpoints(state []byte) func(*wal.Log) api.Errno {
	return func(l *wal.Log) api.Errno { return l.Checkpoint(state) }
}

// stands are logs in both regions of some devices, at several places, seqs and epochs.
func stands() []image {
	return []image{
		logged(32, 1, 1, nil),
		logged(33, 2, 5, []byte("state")),
		logged(34, 3, 1<<40, counted(1, 1, 961), []byte("one"), counted(1, 2, 481)),
		logged(64, 1<<40, 7, nil, counted(1, 2, 4800), []byte("two")),
		logged(32, maxSeq-1, maxSeq, counted(1, 1, 480)),
	}
}

// P12.3: Safe is one flush, by which what pended lasts, and no operation from then on; State, Left and Room tell the same ahead of it and behind it.
func TestSafe(t *testing.T) {
	for _, m := range stands() {
		o := plainOpen(m)
		prepare := func() (*disk.Disk, *wal.Log) {
			d := made(t, m)
			d.Write(len(m)-1, m[len(m)-1])
			d.Write(m.first(o.epoch)+o.place, sec("CVO1", o.epoch, o.seq, o.place, []byte("pends")))
			l := wantTold(t, "ahead of Safe", d, o.state, append(slices.Clip(o.txs), "pends")...)
			wantLog(t, "ahead of Safe", d, l, o.epoch, o.seq+1, o.place+1, m.room()-o.place-1, m.room())
			return d, l
		}
		wantDoes(t, "Safe", prepare, (*wal.Log).Safe, []operation{flushing})
		d, l := prepare()
		wantErr(t, "Safe", l.Safe(), api.OK)
		wantLog(t, "behind Safe", d, l, o.epoch, o.seq+1, o.place+1, m.room()-o.place-1, m.room())
		arm(t, d, fault(1, power))
		for range 3 {
			wantErr(t, "Safe again", l.Safe(), api.OK)
		}
		wantDone(t, "Safe again", d, 0)
	}
}

// P12.4, P12.5: a log that is not safe appends nothing, whatever is handed in, and has not ended by being asked.
func TestNotSafe(t *testing.T) {
	for _, m := range append(stands(), logged(32, maxSeq, maxSeq, nil, []byte("x"))) {
		o := plainOpen(m)
		d := made(t, m)
		l := wantTold(t, "Open", d, o.state, o.txs...)
		was := standOf(d)
		for _, n := range []int{0, 1, 480, 481, 4800, 4801, 100000} {
			wantErr(t, fmt.Sprintf("Append(%d bytes) ahead of Safe", n), l.Append(make([]byte, n)), api.ErrEnded)
			wantErr(t, fmt.Sprintf("Checkpoint(%d bytes) ahead of Safe", n), l.Checkpoint(make([]byte, n)), api.ErrEnded)
		}
		wantLog(t, "ahead of Safe", d, l, o.epoch, o.seq, o.place, m.room()-o.place, m.room())
		wantStand(t, "ahead of Safe", d, was)
		wantErr(t, "Safe", l.Safe(), api.OK)
		wantLog(t, "behind Safe", d, l, o.epoch, o.seq, o.place, m.room()-o.place, m.room())
	}
}

// P12.4: the operations of an Append, in their order, each refused by itself.
func TestAppend(t *testing.T) {
	for _, m := range stands() {
		o := plainOpen(m)
		for _, n := range []int{1, 2, 479, 480, 481, 482, 960, 961, 1440, 1441, 4319, 4320, 4321, 4799, 4800} {
			if plainNeed(n) > m.room()-o.place {
				continue
			}
			tx := counted(n, 7, n)
			wantDoes(t, fmt.Sprintf("Append(%d bytes)", n), ready(t, m), appends(tx), appending(m, o.epoch, o.seq, o.place, tx))
			d, l := ready(t, m)()
			wantErr(t, "Append", l.Append(tx), api.OK)
			place := o.place + plainNeed(n)
			wantLog(t, "behind Append", d, l, o.epoch, o.seq+1, place, m.room()-place, m.room())
		}
	}
}

// P12.4: all lengths that a transaction may have, by how many operations, and what lasts then.
func TestAppendOfAllLengths(t *testing.T) {
	t.Parallel()
	m := logged(32, 1, 1, nil)
	for n := 1; n <= maxTx; n++ {
		tx := counted(n, 7, n)
		d, l := ready(t, m)()
		want := standOf(d)
		arm(t, d)
		wantErr(t, "Append", l.Append(tx), api.OK)
		want.does(appending(m, 1, 1, 0, tx))
		wantStand(t, fmt.Sprintf("Append(%d bytes)", n), d, want)
	}
}

// P12.4: one behind the other, up to the region's last sector; a log that is full still tells all, and takes a checkpoint.
func TestAppendFillsARegion(t *testing.T) {
	for _, m := range stands()[:4] {
		o := plainOpen(m)
		for _, lengths := range [][]int{{1}, {480, 481}, {4800, 1}, {961, 1, 1}} {
			d, l := ready(t, m)()
			epoch, seq, place := o.epoch, o.seq, o.place
			txs := slices.Clip(o.txs)
			for i := 0; place < m.room(); i++ {
				tx := counted(i, 3, lengths[i%len(lengths)])
				arm(t, d)
				want := standOf(d)
				if plainNeed(len(tx)) > m.room()-place {
					wantErr(t, "Append without room", l.Append(tx), api.ErrFull)
					wantStand(t, "Append without room", d, want)
					tx = tx[:1]
				}
				wantErr(t, "Append", l.Append(tx), api.OK)
				want.does(appending(m, epoch, seq, place, tx))
				wantStand(t, "Append", d, want)
				place += plainNeed(len(tx))
				seq++
				txs = append(txs, string(tx))
				wantLog(t, "behind Append", d, l, epoch, seq, place, m.room()-place, m.room())
			}
			was := standOf(d)
			for _, n := range []int{1, 480, 481, 4800} {
				wantErr(t, "Append to a full region", l.Append(make([]byte, n)), api.ErrFull)
			}
			wantStand(t, "a full region", d, was)
			wantLog(t, "a full region", d, l, epoch, seq, m.room(), 0, m.room())
			wantOpen(t, "a full region", imageOf(d.Durable()), opened{state: o.state, txs: txs, epoch: epoch, seq: seq, place: m.room(), reads: append([]int{0, 1}, at(m.first(epoch), m.room())...)})
			arm(t, d)
			was.done = 0
			wantErr(t, "Checkpoint", l.Checkpoint([]byte("state")), api.OK)
			was.does(checkpointing(m, epoch, seq, []byte("state")))
			wantStand(t, "Checkpoint", d, was)
		}
	}
}

// P12.4: what needs just as much as is left, and what needs one sector more, for all that may be left.
func TestAppendAtTheRegionsEnd(t *testing.T) {
	for place := range 16 {
		for k := 1; k <= 11; k++ {
			n := max(1, (k-1)*480)
			if k == 2 {
				continue // nothing needs two
			}
			var txs [][]byte
			for i := range place {
				txs = append(txs, counted(i, 1, 1))
			}
			d, l := ready(t, logged(32, 4, 1, nil, txs...))()
			was := standOf(d)
			want := api.OK
			if place+k > 15 {
				want = api.ErrFull
			}
			wantErr(t, fmt.Sprintf("Append of %d sectors at %d", k, place), l.Append(make([]byte, n)), want)
			if want == api.ErrFull {
				wantStand(t, "Append without room", d, was)
				wantLog(t, "Append without room", d, l, 4, 1+place, place, 15-place, 15)
			} else {
				wantLog(t, "Append", d, l, 4, 2+place, place+k, 15-place-k, 15)
			}
		}
	}
}

// P12.5: the operations of a Checkpoint, in their order, each refused by itself: none, 1, 480, 481 bytes, and as many as there is room for; one byte more is refused, and nothing has been done.
func TestCheckpoint(t *testing.T) {
	for _, m := range stands() {
		o := plainOpen(m)
		most := (m.room() - 11) * 480
		for _, n := range []int{0, 1, 2, 479, 480, 481, 960, 961, 1440, most - 480, most - 479, most - 1, most} {
			if n > most {
				continue
			}
			state := counted(n, 7, n)
			wantDoes(t, fmt.Sprintf("Checkpoint(%d bytes)", n), ready(t, m), checkpoints(state), checkpointing(m, o.epoch, o.seq, state))
			d, l := ready(t, m)()
			wantErr(t, "Checkpoint", l.Checkpoint(state), api.OK)
			place := plainPieces(n)
			wantLog(t, "behind Checkpoint", d, l, o.epoch+1, o.seq, place, m.room()-place, m.room())
			wantOpen(t, "behind Checkpoint", imageOf(d.Durable()), opened{state: string(state), epoch: o.epoch + 1, seq: o.seq, place: place,
				reads: append([]int{0, 1}, at(m.first(o.epoch+1), place+1)...)})
		}
		for _, n := range []int{most + 1, most + 480, most + 481, m.room() * 480, 1 << 20, 1 << 24} {
			d, l := ready(t, m)()
			was := standOf(d)
			wantErr(t, fmt.Sprintf("Checkpoint(%d bytes)", n), l.Checkpoint(make([]byte, n)), api.ErrFull)
			wantStand(t, "Checkpoint without room", d, was)
			wantLog(t, "Checkpoint without room", d, l, o.epoch, o.seq, o.place, m.room()-o.place, m.room())
		}
	}
}

// P12.5: the longest state of the greatest device, and one byte more.
func TestCheckpointOfTheGreatestDevice(t *testing.T) {
	m := logged(8192, 1, 1, nil)
	d, l := ready(t, m)()
	state := counted(3, 11, (4095-11)*480)
	wantErr(t, "Checkpoint", l.Checkpoint(append(slices.Clip(state), 1)), api.ErrFull)
	want := standOf(d)
	arm(t, d)
	wantErr(t, "Checkpoint", l.Checkpoint(state), api.OK)
	want.does(checkpointing(m, 1, 1, state))
	wantStand(t, "the longest Checkpoint", d, want)
	wantErr(t, "Append", l.Append(counted(1, 1, 4800)), api.OK)
	wantLog(t, "the longest Checkpoint", d, l, 2, 2, 4095, 0, 4095)
	wantTold(t, "the longest Checkpoint", d, string(state), string(counted(1, 1, 4800)))
}

// P12.4, P12.5: transactions and checkpoints in turns, through both regions again and again, each one's operations.
func TestTurns(t *testing.T) {
	for _, n := range []int{32, 33, 41} {
		m := logged(n, 1, 1, nil)
		d := formatted(t, n)
		l := safe(t, d)
		s := newSampler(3)
		epoch, seq, place := 1, 1, 0
		state, txs := "", []string(nil)
		for range 300 {
			want := standOf(d)
			arm(t, d)
			b := s.list(s.txLength())
			if need := plainNeed(len(b)); need <= m.room()-place && s.IntN(5) > 0 {
				wantErr(t, "Append", l.Append(b), api.OK)
				want.does(appending(m, epoch, seq, place, b))
				place, seq, txs = place+need, seq+1, append(txs, string(b))
			} else {
				b = b[:min(len(b), (m.room()-11)*480)]
				wantErr(t, "Checkpoint", l.Checkpoint(b), api.OK)
				want.does(checkpointing(m, epoch, seq, b))
				epoch, place, state, txs = epoch+1, plainPieces(len(b)), string(b), nil
			}
			wantStand(t, "in turns", d, want)
			wantLog(t, "in turns", d, l, epoch, seq, place, m.room()-place, m.room())
			twin := made(t, imageOf(d.Durable()))
			wantTold(t, "in turns", twin, state, txs...)
		}
		if epoch < 40 {
			t.Errorf("%d epochs: that tries too little", epoch)
		}
	}
}

// P12.4, P12.5: the errors and their order, two and more at once; nothing has been done then.
func TestErrorsInTheirOrder(t *testing.T) {
	full := logged(32, 5, 3, nil, counted(1, 1, 4800), counted(1, 1, 960), []byte("x"))
	last := logged(32, 5, maxSeq, nil, []byte("of the greatest seq"))
	lastAndFull := logged(32, 5, maxSeq-2, nil, counted(1, 1, 4800), counted(1, 1, 960), []byte("x"))
	epochs := logged(32, maxSeq, 3, nil, []byte("x"))
	epochsAndFull := logged(32, maxSeq, 3, nil, counted(1, 1, 4800), counted(1, 1, 960), []byte("x"))
	all := logged(32, maxSeq, maxSeq-2, nil, counted(1, 1, 4800), counted(1, 1, 960), []byte("x"))
	for _, c := range []struct {
		what             string
		m                image
		none, big        api.Errno // Append of nothing, of 4801 bytes
		one, long        api.Errno // Append of 1 byte, of 4800 bytes
		empty, few, many api.Errno // Checkpoint of nothing, of 1920 bytes, of 1921 bytes
	}{
		{"new", logged(32, 1, 1, nil), api.ErrTxBig, api.ErrTxBig, api.OK, api.OK, api.OK, api.OK, api.ErrFull},
		{"full", full, api.ErrTxBig, api.ErrTxBig, api.ErrFull, api.ErrFull, api.OK, api.OK, api.ErrFull},
		{"no seq left", last, api.ErrTxBig, api.ErrTxBig, api.ErrSeqs, api.ErrSeqs, api.ErrSeqs, api.ErrSeqs, api.ErrSeqs},
		{"no seq left, full", lastAndFull, api.ErrTxBig, api.ErrTxBig, api.ErrSeqs, api.ErrSeqs, api.ErrSeqs, api.ErrSeqs, api.ErrSeqs},
		{"the greatest epoch", epochs, api.ErrTxBig, api.ErrTxBig, api.OK, api.OK, api.ErrSeqs, api.ErrSeqs, api.ErrSeqs},
		{"the greatest epoch, full", epochsAndFull, api.ErrTxBig, api.ErrTxBig, api.ErrFull, api.ErrFull, api.ErrSeqs, api.ErrSeqs, api.ErrSeqs},
		{"no seq left, the greatest epoch, full", all, api.ErrTxBig, api.ErrTxBig, api.ErrSeqs, api.ErrSeqs, api.ErrSeqs, api.ErrSeqs, api.ErrSeqs},
	} {
		for _, call := range []struct {
			what string
			do   func(*wal.Log) api.Errno
			want api.Errno
		}{
			{"Append(nothing)", appends(nil), c.none},
			{"Append(4801 bytes)", appends(make([]byte, 4801)), c.big},
			{"Append(a million bytes)", appends(make([]byte, 1000000)), c.big},
			{"Append(1 byte)", appends([]byte{1}), c.one},
			{"Append(4800 bytes)", appends(make([]byte, 4800)), c.long},
			{"Checkpoint(nothing)", checkpoints(nil), c.empty},
			{"Checkpoint(1920 bytes)", checkpoints(make([]byte, 1920)), c.few},
			{"Checkpoint(1921 bytes)", checkpoints(make([]byte, 1921)), c.many},
		} {
			what := c.what + ": " + call.what
			d, l := ready(t, c.m)()
			epoch, seq, place := l.State()
			arm(t, d, fault(1, power)) // an error of the log's own is told ahead of the device's
			was := standOf(d)
			if call.want == api.OK {
				wantErr(t, what+" without power", call.do(l), api.ErrPower)
				wantEnded(t, what+" without power", d, l)
				continue
			}
			wantErr(t, what, call.do(l), call.want)
			wantStand(t, what, d, was)
			wantLog(t, what, d, l, epoch, seq, place, 15-place, 15)
			d.Claim()
			wantEnded(t, what+", claimed by hand", d, l)
		}
	}
}

// P12.4: the seq MaxSeq is used; behind it there is none.
func TestAppendOfTheGreatestSeq(t *testing.T) {
	m := logged(32, 5, maxSeq-1, nil)
	d, l := ready(t, m)()
	for i, tx := range []string{"one", "two"} {
		want := standOf(d)
		arm(t, d)
		wantErr(t, "Append", l.Append([]byte(tx)), api.OK)
		want.does(appending(m, 5, maxSeq-1+i, i, []byte(tx)))
		wantStand(t, "Append", d, want)
	}
	wantErr(t, "Append", l.Append([]byte("three")), api.ErrSeqs)
	wantErr(t, "Checkpoint", l.Checkpoint([]byte("three")), api.ErrSeqs)
	wantLog(t, "no seq left", d, l, 5, maxSeq+1, 2, 13, 15)
	wantDone(t, "no seq left", d, 2)
	l = wantTold(t, "no seq left", d, "", "one", "two")
	wantLog(t, "no seq left", d, l, 5, maxSeq+1, 2, 13, 15)
}

// P12.5: the epoch MaxSeq is reached by a Checkpoint; behind it there is none, though transactions go on.
func TestCheckpointOfTheGreatestEpoch(t *testing.T) {
	m := logged(32, maxSeq-1, maxSeq, nil)
	d, l := ready(t, m)()
	want := standOf(d)
	arm(t, d)
	wantErr(t, "Checkpoint", l.Checkpoint([]byte("last")), api.OK)
	want.does(checkpointing(m, maxSeq-1, maxSeq, []byte("last")))
	wantStand(t, "Checkpoint", d, want)
	wantErr(t, "Checkpoint", l.Checkpoint([]byte("more")), api.ErrSeqs)
	wantErr(t, "Append", l.Append([]byte("x")), api.OK)
	wantErr(t, "Append", l.Append([]byte("x")), api.ErrSeqs)
	wantLog(t, "no epoch left", d, l, maxSeq, maxSeq+1, 2, 13, 15)
	wantTold(t, "no epoch left", d, "last", "x")
}

// P12.3 to P12.6: a log has ended behind a younger Open, be it made safe or not, and be it refused, and behind a Claim by hand; the younger one goes on.
func TestOlderLogs(t *testing.T) {
	for _, isSafe := range []bool{true, false} {
		for what, claim := range map[string]func(d *disk.Disk){
			"a Claim by hand":   func(d *disk.Disk) { d.Claim() },
			"a younger Open":    func(d *disk.Disk) { wal.Open(d) },
			"a younger Safe":    func(d *disk.Disk) { safe(t, d) },
			"a younger Append":  func(d *disk.Disk) { wantErr(t, "Append", safe(t, d).Append([]byte("younger")), api.OK) },
			"a refused Open":    func(d *disk.Disk) { d.Arm([]api.Fault{fault(1, io)}); wal.Open(d) },
			"three Claims":      func(d *disk.Disk) { d.Claim(); d.Claim(); d.Claim() },
			"an Open and Claim": func(d *disk.Disk) { wal.Open(d); d.Claim() },
		} {
			d := formatted(t, 32)
			l := wantTold(t, "Open", d, "")
			if isSafe {
				wantErr(t, "Safe", l.Safe(), api.OK)
				wantErr(t, "Append", l.Append([]byte("older")), api.OK)
			}
			claim(d)
			wantEnded(t, what, d, l)
			arm(t, d)
			younger := safe(t, d)
			wantErr(t, "Append", younger.Append([]byte("youngest")), api.OK)
			wantEnded(t, what, d, l)
			wantErr(t, "Append", younger.Append([]byte("youngest")), api.OK)
			wantErr(t, "Checkpoint", younger.Checkpoint(nil), api.OK)
		}
	}
}

// P12.3 to P12.6: a log that was refused an operation stays ended, though the device does all again.
func TestEndedForEver(t *testing.T) {
	for k := 1; k <= 5; k++ {
		for _, kind := range []int{power, io} {
			d, l := ready(t, logged(32, 3, 4, nil))()
			arm(t, d, fault(k, kind))
			wantErr(t, "Append", l.Append(make([]byte, 600)), errOf(kind))
			wantEnded(t, "refused", d, l)
			if kind == io {
				arm(t, d)
				wantEnded(t, "the device does all again", d, l)
				wantErr(t, "Flush", d.Flush(), api.OK)
				wantEnded(t, "flushed by hand", d, l)
			}
		}
	}
}

// P12.3, P12.4, P12.5: the power goes off between two calls: the next operation is refused without being counted, and the log has ended.
func TestPowerOffBetweenCalls(t *testing.T) {
	for _, call := range []func(*wal.Log) api.Errno{appends([]byte("x")), appends(make([]byte, 600)), checkpoints(nil), checkpoints([]byte("x"))} {
		d, l := ready(t, logged(32, 3, 4, nil))()
		arm(t, d, fault(1, power))
		d.Read(0)
		was := standOf(d)
		wantErr(t, "Safe of a safe log", l.Safe(), api.OK)
		wantLog(t, "the power is off", d, l, 3, 4, 0, 15, 15)
		wantErr(t, "the power is off", call(l), api.ErrPower)
		wantEnded(t, "the power is off", d, l)
		wantStand(t, "the power is off", d, was)
	}
	d := formatted(t, 32)
	l := wantTold(t, "Open", d, "")
	arm(t, d, fault(1, power))
	d.Read(0)
	wantErr(t, "Safe without power", l.Safe(), api.ErrPower)
	wantEnded(t, "Safe without power", d, l)
}
