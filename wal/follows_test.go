package wal_test

import (
	"fmt"
	"slices"
	"testing"

	"culvert/api"
	"culvert/disk"
	"culvert/wal"
)

// account is what the chapter calls so: a string and a list of transactions.
type account struct {
	state string
	txs   []string
}

func (a account) appended(tx []byte) account {
	return account{a.state, append(slices.Clip(a.txs), string(tx))}
}

func (a account) is(b account) bool { return a.state == b.state && slices.Equal(a.txs, b.txs) }

func (a account) String() string { return fmt.Sprintf("%s, %q", brief(a.state), briefs(a.txs)) }

// play is a device with the latest log over it, and what the chapter says that an Open may tell: A, and what A would be if the call that was refused had answered OK.
type play struct {
	t      *testing.T
	d      *disk.Disk
	l      *wal.Log // nil, if the latest Open was refused, or a Crash has gone over it
	own    account  // of that log
	isSafe bool
	live   bool // it has met no refusal
	a      account
	may    *account
	steps  []string
	met    map[string]int // how often what was told
}

// begin is a play over a device that was just formatted; no log has been opened.
func begin(t *testing.T, n int) *play {
	return &play{t: t, d: made(t, logged(n, 1, 1, nil)), met: map[string]int{}}
}

func (p *play) errorf(form string, args ...any) {
	p.t.Helper()
	p.t.Errorf("%v: %s", p.steps, fmt.Sprintf(form, args...))
}

func (p *play) step(form string, args ...any) { p.steps = append(p.steps, fmt.Sprintf(form, args...)) }

// arms lets the k-th operation of the next call meet a fault; 0 is none.
func (p *play) arms(k, kind int) {
	p.t.Helper()
	l := []api.Fault{}
	if k > 0 {
		l = append(l, fault(k, kind))
	}
	arm(p.t, p.d, l...)
}

// wantAnswer holds a call's answer and how many operations it was against the most that it does, where the k-th was to meet a fault.
func (p *play) wantAnswer(e api.Errno, ops, k, kind int) {
	p.t.Helper()
	want := api.OK
	if k > 0 && k <= ops {
		want, ops = errOf(kind), k
	}
	if e != want || p.d.Done() != ops {
		p.errorf("answers %d after %d operations, want %d after %d", e, p.d.Done(), want, ops)
	}
}

// open opens, and holds what is told against A and what A may be.
func (p *play) open(k, kind int) {
	p.t.Helper()
	p.step("open %d %d", k, kind)
	p.arms(k, kind)
	l, state, txs, e := wal.Open(p.d)
	p.l, p.isSafe, p.live = l, false, e == api.OK
	if e != api.OK {
		if l != nil || k == 0 || k != p.d.Done() || e != errOf(kind) {
			p.errorf("Open answers %d after %d operations", e, p.d.Done())
		}
		return
	}
	if most := 2 + (p.d.Sectors()-2)/2; p.d.Done() > most {
		p.errorf("Open does %d operations, more than %d", p.d.Done(), most)
	}
	p.own = account{string(state), texts(txs)}
	p.wantKnown("an Open", p.own)
}

// wantKnown holds what an Open has told against what it may tell.
func (p *play) wantKnown(what string, told account) {
	p.t.Helper()
	switch {
	case told.is(p.a):
		p.met["A"]++
	case p.may != nil && told.is(*p.may):
		p.met["what A may be"]++
	default:
		p.errorf("%s tells %v; A is %v, and may be %v", what, told, p.a, p.may)
	}
}

func (p *play) safe(k, kind int) {
	p.t.Helper()
	p.step("safe %d %d", k, kind)
	p.arms(k, kind)
	e := p.l.Safe()
	p.wantAnswer(e, 1, k, kind)
	p.live = e == api.OK
	if p.live {
		p.isSafe, p.a, p.may = true, p.own, nil
	}
}

// append appends, with a log that is safe; where there is no room, that is told.
func (p *play) append(tx []byte, k, kind int) {
	p.t.Helper()
	p.step("append %d bytes %d %d", len(tx), k, kind)
	p.arms(k, kind)
	need, left := plainNeed(len(tx)), p.l.Left()
	e := p.l.Append(tx)
	if need > left {
		if e != api.ErrFull || p.d.Done() != 0 {
			p.errorf("Append of %d sectors where %d are left answers %d", need, left, e)
		}
		return
	}
	ops := 2
	if need > 1 {
		ops = plainPieces(len(tx)) + 3
	}
	p.wantAnswer(e, ops, k, kind)
	p.becomes(p.a.appended(tx), e)
}

func (p *play) checkpoint(state []byte, k, kind int) {
	p.t.Helper()
	p.step("checkpoint %d bytes %d %d", len(state), k, kind)
	p.arms(k, kind)
	e := p.l.Checkpoint(state)
	p.wantAnswer(e, plainPieces(len(state))+3, k, kind)
	p.becomes(account{state: string(state)}, e)
}

// becomes is what A is behind a call, or may be.
func (p *play) becomes(a account, e api.Errno) {
	if e == api.OK {
		p.a = a
		return
	}
	p.may, p.live = &a, false
}

func (p *play) crash(keep []bool) {
	p.step("crash %v", keep)
	p.d.Crash(keep)
	p.l, p.live = nil, false
}

// twin is another device on which the same lasts and pends.
func twin(t *testing.T, d *disk.Disk) *disk.Disk {
	t.Helper()
	other := made(t, imageOf(d.Durable()))
	for _, w := range d.Pending() {
		wantErr(t, "Write", other.Write(w.Sector, w.Data), api.OK)
	}
	return other
}

// survivors are which of m writes a crash keeps: in all ways, if they are few; else nothing, all, each by itself, all but each, the first ones.
func survivors(m int) [][]bool {
	var out [][]bool
	if m <= 4 {
		for set := range 1 << m {
			keep := make([]bool, m)
			for i := range keep {
				keep[i] = set&(1<<i) != 0
			}
			out = append(out, keep)
		}
		return out
	}
	for i := range m {
		one, first := make([]bool, m), make([]bool, m)
		one[i] = true
		for j := range i {
			first[j] = true
		}
		others := slices.Repeat([]bool{true}, m)
		others[i] = false
		out = append(out, one, first, others)
	}
	return append(out, slices.Repeat([]bool{true}, m))
}

// look opens the device as it is, and as each crash would leave it, without a change of it.
func (p *play) look() {
	p.t.Helper()
	p.lookAt("an Open now", twin(p.t, p.d))
	for _, keep := range survivors(len(p.d.Pending())) {
		other := twin(p.t, p.d)
		other.Crash(keep)
		p.lookAt(fmt.Sprintf("an Open behind a crash that keeps %v", keep), other)
	}
}

func (p *play) lookAt(what string, d *disk.Disk) {
	p.t.Helper()
	l, state, txs, e := wal.Open(d)
	if l == nil || e != api.OK {
		p.errorf("%s answers %d", what, e)
		return
	}
	p.wantKnown(what, account{string(state), texts(txs)})
}

// act is an Append or a Checkpoint, with how many operations it is.
type act struct {
	ops        int
	checkpoint bool
	length     int
}

func (c act) do(p *play, number, k, kind int) {
	p.t.Helper()
	b := counted(number, 1+2*number, c.length)
	if c.checkpoint {
		p.checkpoint(b, k, kind)
	} else {
		p.append(b, k, kind)
	}
}

// commits tells whether a write is the one by which the act is whole.
func (c act) commits(w api.Pending) bool {
	tag := partOf(w.Data).tag
	return tag == "CVO1" || tag == "CVC1" || tag == "CVS1"
}

func shortActs() []act {
	return []act{{2, false, 1}, {5, false, 600}, {6, false, 970}, {3, true, 0}, {4, true, 7}, {5, true, 700}}
}

func longActs() []act {
	return append(shortActs(), act{2, false, 480}, act{5, false, 960}, act{13, false, 4800}, act{13, false, 4321}, act{7, true, 1920}, act{4, true, 480})
}

// P12.8: the power lost at each operation of an Append and of a Checkpoint, what pends surviving in many ways; the call is whole if the last write of it survives, and else it is not at all.
func TestPowerLostAtEachOperation(t *testing.T) {
	for _, c := range longActs() {
		for k := 1; k <= c.ops; k++ {
			p := begin(t, 32)
			p.open(0, 0)
			p.safe(0, 0)
			p.append([]byte("one"), 0, 0)
			c.do(p, 1, k, power)
			for _, keep := range survivors(len(p.d.Pending())) {
				d := twin(t, p.d)
				want := p.a
				for i, w := range p.d.Pending() {
					if keep[i] && c.commits(w) {
						want = *p.may
					}
				}
				d.Crash(keep)
				wantTold(t, fmt.Sprintf("%v, the power fails at %d, %v survive", c, k, keep), d, want.state, want.txs...)
				wantErr(t, "Append", safe(t, d).Append([]byte("and on")), api.OK)
				d.Crash(nil)
				wantTold(t, "and on", d, want.state, append(slices.Clip(want.txs), "and on")...)
			}
		}
	}
}

// P12.8: each operation refused without a loss of power: an Open reads what pends, so that the call is whole if its last write was done; Safe makes it so for ever, a crash ahead of that does not.
func TestRefusedAtEachOperation(t *testing.T) {
	for _, c := range longActs() {
		for k := 1; k <= c.ops; k++ {
			p := begin(t, 32)
			p.open(0, 0)
			p.safe(0, 0)
			p.append([]byte("one"), 0, 0)
			c.do(p, 1, k, io)
			want := p.a
			if slices.ContainsFunc(p.d.Pending(), c.commits) {
				want = *p.may
			}
			if (k == c.ops) != want.is(*p.may) {
				t.Errorf("%v, refused at %d: the last write is not where it ought to be", c, k)
			}
			what := fmt.Sprintf("%v, refused at %d", c, k)
			kept, lost := twin(t, p.d), twin(t, p.d)
			wantTold(t, what, lost, want.state, want.txs...)
			lost.Crash(nil)
			wantTold(t, what+", lost ahead of Safe", lost, p.a.state, p.a.txs...)
			l := wantTold(t, what, kept, want.state, want.txs...)
			wantErr(t, "Safe", l.Safe(), api.OK)
			kept.Crash(nil)
			wantTold(t, what+", lost behind Safe", kept, want.state, want.txs...)
		}
	}
}

// recover lets a play go on behind a call that may have been refused, so that a log is safe again: the way of the number n, of as many as it tells.
func (p *play) recover(n int) (ways int) {
	p.t.Helper()
	sets := survivors(len(p.d.Pending()))
	if n < len(sets) {
		p.crash(sets[n])
	}
	switch n - len(sets) {
	case 1: // found, but not made safe, and then lost
		p.open(0, 0)
		p.safe(1, io)
		p.crash(nil)
	case 2: // found twice
		p.open(0, 0)
		p.safe(1, io)
		p.open(3, io)
	}
	p.open(0, 0)
	p.look()
	p.safe(0, 0)
	return len(sets) + 3
}

// P12.8: all plays of two calls, each refused at each of its operations or at none, with all ways of going on between: the second one made with other bytes, at times in the place of the first.
func TestTwoCalls(t *testing.T) {
	t.Parallel()
	met := map[string]int{}
	for _, one := range shortActs() {
		for k := range one.ops + 1 {
			for n, ways := 0, 1; n < ways; n++ {
				for _, two := range shortActs() {
					for k2 := range two.ops + 1 {
						p := begin(t, 32)
						p.met = met
						p.open(0, 0)
						p.safe(0, 0)
						p.append([]byte("first"), 0, 0)
						one.do(p, 1, k, io)
						p.look()
						ways = p.recover(n)
						two.do(p, 2, k2, power)
						p.look()
						if t.Failed() {
							return
						}
					}
				}
			}
		}
	}
	if met["A"] < 10000 || met["what A may be"] < 1000 {
		t.Errorf("the plays try too little: %v", met)
	}
}

// sample goes on by one step.
func (p *play) sample(s sampler, number int) {
	p.t.Helper()
	k, kind := 0, io
	if s.IntN(3) == 0 {
		k, kind = 1+s.IntN(8), pick(s, power, io)
	}
	switch {
	case !p.d.Power():
		p.crash(s.keep(len(p.d.Pending())))
	case !p.live || s.IntN(12) == 0:
		if s.IntN(3) == 0 {
			p.crash(s.keep(len(p.d.Pending())))
		}
		p.open(k, kind)
	case !p.isSafe:
		p.safe(k/4, kind)
	case s.IntN(4) == 0:
		p.checkpoint(counted(number, 1+2*number, pick(s, 0, 1, 5, 480, 481, 960, 961, 1920)), k, kind)
	default:
		p.append(counted(number, 1+2*number, pick(s, 1, 1, 5, 5, 480, 481, 700, 960, 961, 1440, 4800)), k, kind)
	}
}

func (s sampler) keep(m int) []bool {
	keep := make([]bool, m)
	for i := range keep {
		keep[i] = s.IntN(2) == 0
	}
	return pick(s, nil, keep, keep, slices.Repeat([]bool{true}, m))
}

// P12.8, P12.9, P12.10: long plays of any calls, any refusals, any crashes; behind each step all that an Open could tell.
func TestSampledPlays(t *testing.T) {
	t.Parallel()
	met := map[string]int{}
	for seed := range uint64(120) {
		s := newSampler(100 + seed)
		p := begin(t, pick(s, 32, 33, 36))
		p.met = met
		for number := range 80 {
			p.sample(s, number)
			p.look()
			if t.Failed() {
				return
			}
		}
	}
	if met["A"] < 10000 || met["what A may be"] < 500 {
		t.Errorf("the plays try too little: %v", met)
	}
}

// P12.8: no log was made safe: every Open tells the empty string and no transaction.
func TestNoLogMadeSafe(t *testing.T) {
	p := begin(t, 32)
	p.look()
	for k := range 5 {
		p.open(k%4, io)
		p.look()
	}
	p.open(0, 0)
	p.safe(1, io)
	p.look()
	p.open(0, 0)
	wantErr(t, "Append", p.l.Append([]byte("x")), api.ErrEnded)
	p.look()
}

// P12.8: attempts that were given up again and again at one place, with other bytes and other lengths, and what they have left there: none of it comes back.
func TestManyAttempts(t *testing.T) {
	t.Parallel()
	for _, c := range longActs() {
		p := begin(t, 32)
		p.open(0, 0)
		p.safe(0, 0)
		number := 0
		for _, other := range longActs() {
			for k := 1; k < other.ops; k++ { // its last write is not done
				number++
				other.do(p, number, k, io)
				p.look()
				p.open(0, 0)
				p.safe(0, 0)
				if len(p.own.txs) != 0 || p.own.state != "" {
					t.Fatalf("%v, refused at %d, has come back", other, k)
				}
			}
		}
		c.do(p, 200, 0, 0)
		p.look()
		p.crash(nil)
		p.open(0, 0)
		p.safe(0, 0)
		p.append([]byte("behind"), 0, 0)
		p.look()
		if t.Failed() {
			return
		}
	}
}

// P12.9: what is safe stays, behind each call, behind crashes that keep nothing, and whatever else is refused: Opens, and Safes of other logs.
func TestWhatIsSafeStays(t *testing.T) {
	p := begin(t, 34)
	s := newSampler(4)
	p.open(0, 0)
	p.safe(0, 0)
	for number := range 120 {
		b := s.list(s.txLength())
		if plainNeed(len(b)) <= p.l.Left() {
			p.append(b, 0, 0)
		} else {
			p.checkpoint(b[:min(len(b), 5*480)], 0, 0)
		}
		if p.may != nil || len(p.d.Pending()) != 0 {
			t.Fatalf("a call was refused, or has left something that pends")
		}
		p.look()
		switch number % 4 {
		case 1:
			p.crash(nil)
		case 2:
			p.open(3, power)
			p.look()
			p.crash(nil)
		case 3:
			p.open(0, 0)
			p.safe(1, io)
			p.look()
			p.open(2, io)
			p.look()
		default:
			continue
		}
		p.open(0, 0)
		p.safe(0, 0)
		if t.Failed() {
			return
		}
	}
	if p.met["what A may be"] != 0 || p.met["A"] < 300 {
		t.Errorf("the play tries too little, or something else: %v", p.met)
	}
}

// P12.10: how many operations a call does, for all lengths of transactions and states.
func TestJustSoMany(t *testing.T) {
	t.Parallel()
	d := formatted(t, 64)
	l := safe(t, d)
	for n := 1; n <= maxTx; n++ {
		if plainNeed(n) > l.Left() {
			arm(t, d)
			state := counted(n, 1, n*2)
			wantErr(t, "Checkpoint", l.Checkpoint(state), api.OK)
			wantDone(t, fmt.Sprintf("Checkpoint(%d bytes)", len(state)), d, plainPieces(len(state))+3)
		}
		arm(t, d)
		wantErr(t, "Append", l.Append(counted(n, 1, n)), api.OK)
		want := 2
		if n > 480 {
			want = plainPieces(n) + 3
		}
		wantDone(t, fmt.Sprintf("Append(%d bytes)", n), d, want)
	}
	arm(t, d)
	l = safe(t, d)
	if most := 2 + 31 + 1; d.Done() > most {
		t.Errorf("Open and Safe do %d operations, more than %d", d.Done(), most)
	}
}

// P12.10: Open does at most 2 + K' + R operations, of any device: with a superblock that counts and is not taken, whose checkpoint is read to its last piece, beside a region that is full.
func TestOpenDoesTheMost(t *testing.T) {
	for _, n := range []int{32, 33, 64} {
		r := (n - 2) / 2
		state := counted(1, 3, (r-11)*480)
		m := logged(n, 6, 8, state)
		m[0] = sec("CVS1", 6, 8, 0, superBody(n, r-11, len(state), plainSum(state)+1))
		var txs [][]byte
		for i := range r - (r - 11) {
			txs = append(txs, counted(i, 1, 1+i))
		}
		other := logged(n, 5, 3, state, txs...)
		m[1] = other[1]
		copy(m[2+r:], other[2+r:])
		d := made(t, m)
		wantTold(t, "the most", d, string(state), texts(txs)...)
		wantDone(t, "the most", d, 2+(r-11)+r)
	}
}
