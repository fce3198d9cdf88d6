package store_test

import (
	"fmt"
	"maps"
	"slices"
	"testing"

	"culvert/api"
	"culvert/disk"
	"culvert/store"
)

// play is a device with the latest store over it, and what the chapter says that an Open may find: A, and what A would be with the change of the commit that was refused.
type play struct {
	t     *testing.T
	d     *disk.Disk
	s     *store.Store // nil, if the latest Open was refused, or a Crash has gone over it
	p     plain        // how that store stands
	live  bool         // it has not ended
	a     rows
	may   rows // nil, if nothing was refused
	steps []string
	met   map[string]int // how often what was found, or was the error
}

// begin is a play over a device that was just formatted; no store has been opened.
func begin(t *testing.T, n int) *play {
	return &play{t: t, d: made(t, logged(n, 1, 1, nil)), a: rows{}, met: map[string]int{}}
}

func (p *play) errorf(form string, args ...any) {
	p.t.Helper()
	p.t.Errorf("%v: %s", p.steps, fmt.Sprintf(form, args...))
}

func (p *play) step(form string, args ...any) { p.steps = append(p.steps, fmt.Sprintf(form, args...)) }

// arms lets the k-th operation of the next call meet a fault; 0 is none.
func (p *play) arms(k, kind int) {
	p.t.Helper()
	if k > 0 {
		arm(p.t, p.d, fault(k, kind))
	} else {
		arm(p.t, p.d)
	}
}

// open opens, and holds what is found against A and what A may be.
func (p *play) open(k, kind int) {
	p.t.Helper()
	p.step("open %d %d", k, kind)
	p.arms(k, kind)
	lasted := p.d.Durable()
	writes := p.d.Pending()
	s, e := store.Open(p.d)
	p.s, p.live = s, e == api.OK
	if e != api.OK {
		if s != nil || k == 0 || k != p.d.Done() || e != errOf(kind) {
			p.errorf("Open answers %d after %d operations", e, p.d.Done())
		}
		return
	}
	// P14.11: nothing was written: what lasts now lasted or pended.
	was := stand{durable: lasted, pending: writes}
	was.does([]operation{flushing})
	if string(was.durable) != string(p.d.Durable()) || len(p.d.Pending()) != 0 {
		p.errorf("Open has written something, or has flushed nothing")
	}
	p.p = plain{sectors: p.d.Sectors(), rows: rowsOf(p.t, "Open", s)}
	p.p.epoch, p.p.seq, p.p.place = s.State()
	p.wantKnown("an Open", p.p.rows)
	p.a, p.may = p.p.rows, nil
}

// wantKnown holds what an Open has found against what it may find.
func (p *play) wantKnown(what string, found rows) {
	p.t.Helper()
	switch {
	case maps.Equal(found, p.a):
		p.met["A"]++
	case p.may != nil && maps.Equal(found, p.may):
		p.met["what A may be"]++
	default:
		p.errorf("%s finds %v; A is %v, and may be %v", what, found, p.a, p.may)
	}
}

// commit commits, and holds the answer, how many operations it was, and what the store tells then.
func (p *play) commit(l []api.Set, k, kind int) {
	p.t.Helper()
	p.step("commit %s %d %d", told(l), k, kind)
	p.arms(k, kind)
	c := p.p.commit(l)
	want, ops := c.err, len(c.ops)
	refused := 0 < k && k <= ops
	if refused {
		want, ops = errOf(kind), k
	}
	most := plainPieces(len(p.p.rows.bytes())) + 16
	if e := p.s.Commit(l); e != want || p.d.Done() != ops || ops > most {
		p.errorf("answers %d after %d operations, want %d after %d, and at most %d", e, p.d.Done(), want, ops, most)
	}
	if want == api.ErrFull && len(c.store.rows.after(l).bytes()) <= len(c.store.rows.bytes()) {
		p.errorf("P14.10: refused, though the state has no more bytes behind it")
	}
	p.met[fmt.Sprint("error ", int(want))]++
	if refused {
		p.may, p.live = c.store.rows, false
		wantEnded(p.t, "refused", p.d, p.s)
		return
	}
	p.p = c.store
	p.a = c.store.rows
	wantStore(p.t, "behind a commit", p.d, p.s, p.p)
	if !p.p.fits(p.p.rows) {
		p.errorf("P14.10: the state is beyond the room")
	}
}

func (p *play) crash(keep []bool) {
	p.step("crash %v", keep)
	p.d.Crash(keep)
	p.s, p.live = nil, false
}

// look opens the device as it is, and as each crash would leave it, without a change of it.
func (p *play) look() {
	p.t.Helper()
	p.lookAt("an Open now", twin(p.t, p.d))
	for _, keep := range survivors(len(p.d.Pending())) {
		other := twin(p.t, p.d)
		other.Crash(keep)
		p.lookAt(fmt.Sprintf("an Open behind a crash that keeps %v", keep), other)
	}
}

func (p *play) lookAt(what string, d *disk.Disk) {
	p.t.Helper()
	s, e := store.Open(d)
	if s == nil || e != api.OK {
		p.errorf("P14.9: %s answers %d, and nothing was refused", what, e)
		return
	}
	p.wantKnown(what, rowsOf(p.t, what, s))
}

// shortActs are lists of few sets: transactions of one, three and more sectors, deletes, nothing.
func shortActs(number int) [][]api.Set {
	x := fmt.Sprint(number)
	return [][]api.Set{
		sets(set("a", x)),
		sets(gone("first"), set("b", x)),
		sets(set("p", great(number)), set("q", great(number+1))),
		sets(gone("p"), gone("a")),
	}
}

// longActs are these and longer ones.
func longActs(number int) [][]api.Set {
	return append(shortActs(number),
		sets(set("p", great(number)), set("q", great(number+1)), set("r", great(number+2))),
		sets(set("p", great(number)[:240]), gone("q"), set("first", "")),
		sets(gone("first"), gone("flip"), gone("p"), gone("s")),
		sets(set("p", great(number)), set("q", great(number+1)), set("r", great(number+2)), set("first", great(number + 3)[:400])))
}

// begun is a play in which a store is open over a device, with so many sectors of its region in use.
func begun(t *testing.T, place int) *play {
	t.Helper()
	p := begin(t, 32)
	p.open(0, 0)
	p.commit(sets(set("first", "0"), set("p", great(1))), 0, 0)
	for i := 0; p.p.place < place; i++ {
		p.commit(sets(set("flip", fmt.Sprint(i))), 0, 0)
	}
	if p.p.place != place || p.p.epoch != 1 {
		t.Fatalf("the place is %d, the epoch %d", p.p.place, p.p.epoch)
	}
	return p
}

// again is a play that begins where this one stands, over a device of its own.
func (p *play) again() *play {
	p.t.Helper()
	q := &play{t: p.t, d: twin(p.t, p.d), a: p.a, met: map[string]int{}}
	q.open(0, 0)
	return q
}

// whole tells whether a write is the one by which a commit is whole: its only sector, or its end.
func whole(w api.Pending) bool {
	tag := string(w.Data[:4])
	return tag == "CVO1" || tag == "CVC1"
}

// P14.9: the power lost at each operation of a Commit, with a checkpoint and without, what pends surviving in many ways; the change is whole if its last write survives, and else it is not at all; and further commits stay.
func TestPowerLostAtEachOperation(t *testing.T) {
	t.Parallel()
	turned := map[bool]int{}
	for _, place := range []int{3, 13, 14, 15} {
		for i := range longActs(5) {
			base := begun(t, place)
			c := base.p.commit(longActs(5)[i])
			if c.err != api.OK || c.nothing {
				continue
			}
			turned[c.turned]++
			for k := 1; k <= len(c.ops); k++ {
				p := base.again()
				p.commit(longActs(5)[i], k, power)
				for _, keep := range survivors(len(p.d.Pending())) {
					d := twin(t, p.d)
					want := p.a
					for i, w := range p.d.Pending() {
						if keep[i] && whole(w) {
							want = p.may
						}
					}
					d.Crash(keep)
					what := fmt.Sprintf("%v, the power fails at %d, %v survive", p.steps, k, keep)
					s := wantFound(t, what, d, want)
					wantErr(t, what+": Commit", s.Commit(sets(set("on", "1"))), api.OK)
					d.Crash(nil)
					wantFound(t, what+", and on", d, want.after(sets(set("on", "1"))))
				}
			}
		}
	}
	if turned[true] < 10 || turned[false] < 10 {
		t.Errorf("%v: that tries too little", turned)
	}
}

// P14.9: each operation refused without a loss of power: an Open finds what pends, so that the change is whole if its last write was done; the Open's flush makes it so for ever.
func TestRefusedAtEachOperation(t *testing.T) {
	t.Parallel()
	for _, place := range []int{3, 13, 14, 15} {
		for i := range longActs(5) {
			base := begun(t, place)
			c := base.p.commit(longActs(5)[i])
			for k := 1; k <= len(c.ops); k++ {
				p := base.again()
				p.commit(longActs(5)[i], k, io)
				what := fmt.Sprintf("%v, refused at %d", p.steps, k)
				want := p.a
				if k == len(c.ops) {
					want = p.may
				}
				if slices.ContainsFunc(p.d.Pending(), whole) != (k == len(c.ops)) {
					t.Errorf("%s: the last write is not where it ought to be", what)
				}
				lost := twin(t, p.d)
				arm(t, lost, fault(opening(t, lost), io))
				wantNoStore(t, what+", the Open's flush refused", lost, api.ErrIO)
				lost.Crash(nil)
				wantFound(t, what+", lost ahead of a flush", lost, p.a)
				wantFound(t, what, p.d, want)
				p.d.Crash(nil)
				s := wantFound(t, what+", lost behind the flush", p.d, want)
				wantErr(t, what+": Commit", s.Commit(sets(set("on", "1"))), api.OK)
				p.d.Crash(nil)
				wantFound(t, what+", and on", p.d, want.after(sets(set("on", "1"))))
			}
		}
	}
}

// recover lets a play go on behind a commit that may have been refused, so that a store is open again: the way of the number n, of as many as it tells.
func (p *play) recover(n int) (ways int) {
	p.t.Helper()
	keeps := survivors(len(p.d.Pending()))
	if n < len(keeps) {
		p.crash(keeps[n])
	}
	flush := opening(p.t, p.d)
	switch n - len(keeps) {
	case 1: // found, but not made to last, and then lost
		p.open(flush, io)
		p.crash(nil)
	case 2: // found twice
		p.open(flush, io)
		p.open(3, io)
	}
	p.open(0, 0)
	p.look()
	return len(keeps) + 3
}

// P14.9: all plays of two commits, each refused at each of its operations or at none, with all ways of going on between; where there is room, and where there is none: so that a checkpoint is begun, given up and begun again.
func TestTwoCommits(t *testing.T) {
	for _, place := range []int{3, 15} {
		for i := range shortActs(5) {
			t.Run(fmt.Sprint(place, i), func(t *testing.T) {
				t.Parallel()
				twoCommits(t, place, i)
			})
		}
	}
}

// twoCommits are all plays whose first commit is this one.
func twoCommits(t *testing.T, place, i int) {
	base := begun(t, place)
	met := map[string]int{}
	ops := len(base.p.commit(shortActs(5)[i]).ops)
	for k := range ops + 1 {
		for n, ways := 0, 1; n < ways; n++ {
			for j := range shortActs(6) {
				for k2, ops2 := 0, 0; k2 <= ops2; k2++ {
					p := base.again()
					p.commit(shortActs(5)[i], k, io)
					ways = p.recover(n)
					p.met = met
					ops2 = len(p.p.commit(shortActs(6)[j]).ops)
					p.commit(shortActs(6)[j], k2, power)
					p.look()
					if t.Failed() {
						return
					}
				}
			}
		}
	}
	if met["A"] < 200 || met["what A may be"] < 50 {
		t.Errorf("the plays try too little: %v", met)
	}
}

func (s sampler) keep(m int) []bool {
	keep := make([]bool, m)
	for i := range keep {
		keep[i] = s.IntN(2) == 0
	}
	return pick(s, nil, keep, keep, slices.Repeat([]bool{true}, m))
}

// sample goes on by one step.
func (p *play) sample(s sampler) {
	p.t.Helper()
	k, kind := 0, io
	if s.IntN(3) == 0 {
		k, kind = 1+s.IntN(14), pick(s, power, io)
	}
	switch {
	case !p.d.Power():
		p.crash(s.keep(len(p.d.Pending())))
	case !p.live || s.IntN(12) == 0:
		if s.IntN(3) == 0 {
			p.crash(s.keep(len(p.d.Pending())))
		}
		p.open(k, kind)
	case s.IntN(10) == 0:
		p.commit(pick(s, sets(set("", "x")), changed(4801), changed(1921+s.IntN(1000)), nil), k, kind)
	default:
		p.commit(s.list(pick(s, 1, 2, 4, 8)), k, kind)
	}
}

// P14.9, P14.10, P14.11: long plays of any calls, any refusals, any crashes; behind each step all that an Open could find.
func TestSampledPlays(t *testing.T) {
	t.Parallel()
	met := map[string]int{}
	for seed := range uint64(80) {
		s := newSampler(100 + seed)
		p := begin(t, pick(s, 32, 33, 34, 36))
		p.met = met
		for range 80 {
			p.sample(s)
			p.look()
			if t.Failed() {
				return
			}
		}
	}
	if met["A"] < 5000 || met["what A may be"] < 200 || met["error 112"] < 50 || met["error 103"] < 50 {
		t.Errorf("the plays try too little: %v", met)
	}
}

// P14.9: no Open has answered OK: every one finds no rows.
func TestNoStoreOpened(t *testing.T) {
	p := begin(t, 32)
	p.look()
	for k := 1; k <= 4; k++ {
		p.open(k, io)
		p.look()
	}
	p.open(2, power)
	p.look()
	p.crash(nil)
	p.look()
	if p.met["A"] != 14 || p.met["what A may be"] != 0 {
		t.Errorf("met %v", p.met)
	}
}

// P14.9: commits that were given up again and again at one place, with other sets and other lengths: none of them comes back.
func TestManyAttempts(t *testing.T) {
	t.Parallel()
	for _, place := range []int{3, 14, 15} {
		p := begun(t, place)
		was := p.a
		for number := range 3 {
			for i := range longActs(5) {
				l := longActs(10 + 5*number)[i]
				for k := 1; k < len(p.p.commit(l).ops); k++ { // its last write is not done; a checkpoint may come to stay
					p.commit(l, k, io)
					p.look()
					p.open(0, 0)
					if !maps.Equal(p.a, was) {
						t.Fatalf("%s, refused at %d, has come back", told(l), k)
					}
				}
			}
		}
		p.commit(sets(set("on", "1")), 0, 0)
		p.look()
		p.crash(nil)
		p.open(0, 0)
		p.commit(sets(set("on", "2")), 0, 0)
		p.look()
		if want := was.after(sets(set("on", "2"))); !maps.Equal(p.a, want) {
			t.Errorf("the attempts lead to %v, want %v", p.a, want)
		}
	}
}

// P14.9: a commit that was refused otherwise never appears.
func TestRefusedOtherwise(t *testing.T) {
	p := begun(t, 14)
	was := p.a
	for _, l := range [][]api.Set{sets(set("x", "1"), set("", "")), changed(4801), changed(1921), append(changed(100), gone(""))} {
		p.commit(l, 1, power) // nothing meets it
		p.look()
	}
	p.crash(nil)
	p.open(0, 0)
	if !maps.Equal(p.a, was) || p.met["error 114"] != 2 || p.met["error 111"] != 1 || p.met["error 112"] != 1 {
		t.Errorf("found %v, want %v; met %v", p.a, was, p.met)
	}
}

// P14.10: a store whose state has just as many bytes as there is room for: commits behind which it has no more go on for ever, through all checkpoints, with transactions of all lengths that such a state has.
func TestRoom(t *testing.T) {
	t.Parallel()
	for _, n := range []int{32, 34, 44, 46} {
		most := ((n-2)/2 - 11) * 480
		p := begin(t, n)
		p.open(0, 0)
		for key, value := range filled("s", most, 1) { // one by one: all together is too long at a great device
			p.commit(sets(set(key, value)), 0, 0)
		}
		if got := len(p.p.rows.bytes()); got != most {
			t.Fatalf("%d bytes, want %d", got, most)
		}
		s := newSampler(uint64(n))
		for number := range 200 {
			var l []api.Set
			size := 0
			for _, key := range p.p.rows.keys() {
				row := 4 + len(key) + len(p.p.rows[key])
				if s.IntN(2) == 0 && size+row <= maxTx {
					l = append(l, set(key, counted(number, 1+2*s.IntN(9), len(p.p.rows[key]))))
					size += row
				}
			}
			p.steps = nil
			p.commit(l, 0, 0)
			if number%20 == 0 {
				p.commit(sets(set("t", "")), 0, 0)
				p.look()
				p.open(0, 0)
			}
		}
		if p.met["error 112"] != 10 || p.met["error 0"] < 200 || p.p.epoch < 20 {
			t.Errorf("met %v in %d epochs", p.met, p.p.epoch)
		}
		if got := len(p.p.rows.bytes()); got != most {
			t.Errorf("%d bytes, want %d", got, most)
		}
	}
}

// P14.11: the most that a Commit does: a checkpoint of K pieces, and the longest transaction.
func TestTheMostOperations(t *testing.T) {
	for _, r := range []rows{{}, {"s": "1"}, filled("s", 480, 1), filled("s", 481, 1), filled("s", 4800, 1)} {
		k := plainPieces(len(r.bytes()))
		m, _ := stands(80, 2, 5, r, append(flips(39-k-11), sets(gone("flip")))...) // ten sectors are left, one too few
		d, s := over(t, m)()
		arm(t, d)
		wantErr(t, "Commit", s.Commit(changed(4800)), api.OK)
		wantDone(t, fmt.Sprintf("the longest Commit behind %d pieces", k), d, k+16)
	}
}
