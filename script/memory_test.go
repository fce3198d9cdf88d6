package script_test

import (
	"bytes"
	"slices"
	"strings"
	"testing"
	"unsafe"

	"culvert/api"
	"culvert/script"
)

// watch knows the lists that a call is handed, each in the middle of a longer one: whether they, and what lies around them, are as they were.
type watch struct {
	unchanged []func() bool
	overwrite []func()
}

// roomy is a copy of a list in the middle of a longer one that is watched.
func roomy[T any](w *watch, list []T, around, other T, same func(a, b T) bool) []T {
	const wide = 20
	room := slices.Repeat([]T{around}, wide)
	all := slices.Concat(room, list, room)
	was := slices.Clone(all)
	w.unchanged = append(w.unchanged, func() bool { return slices.EqualFunc(all, was, same) })
	w.overwrite = append(w.overwrite, func() {
		for i := range all {
			all[i], was[i] = other, other
		}
	})
	return all[wide : wide+len(list)]
}

// lies: two lists are the same memory, spare room too.
func lies[T any](a, b []T) bool {
	return len(a) == len(b) && cap(a) == cap(b) && unsafe.SliceData(a) == unsafe.SliceData(b)
}

func equal[T comparable](a, b T) bool { return a == b }

func (w *watch) bytes(b []byte) []byte { return roomy(w, b, 0x77, 0xEE, equal) }

func (w *watch) changes(l []api.Change) []api.Change {
	out := slices.Clone(l)
	for i, c := range l {
		out[i].Key = w.bytes(c.Key)
	}
	return roomy(w, out, remove(98), remove(97), func(a, b api.Change) bool { return sameChange(a, b) && lies(a.Key, b.Key) })
}

func (w *watch) script(s api.Script) api.Script {
	out := slices.Clone(s.Ops)
	for i, o := range s.Ops {
		out[i].Data, out[i].Changes = w.bytes(o.Data), w.changes(o.Changes)
		out[i].Faults = roomy(w, o.Faults, api.Fault{At: 98, Kind: 1}, api.Fault{At: 97, Kind: 2}, equal)
		out[i].Keep = roomy(w, o.Keep, true, false, equal)
	}
	ops := roomy(w, out, look(98), look(97), func(a, b api.Op) bool {
		return sameOp(a, b) && lies(a.Data, b.Data) && lies(a.Changes, b.Changes) && lies(a.Faults, b.Faults) && lies(a.Keep, b.Keep)
	})
	return api.Script{Sectors: s.Sectors, Ops: ops}
}

func (w *watch) wantUnchanged(t *testing.T, what string) {
	t.Helper()
	for i, unchanged := range w.unchanged {
		if !unchanged() {
			t.Errorf("%s: the list %d that was handed in, or what lies around it, has changed", what, i)
		}
	}
}

func (w *watch) writeOver() {
	for _, over := range w.overwrite {
		over()
	}
}

// manyScripts are such that are printed, and such that are not.
func manyScripts() []api.Script {
	s := newSampler(11)
	var all []api.Op
	for kind := range 15 {
		all = append(all, only(s.full(kind+1)))
	}
	out := []api.Script{{}, of(), of(all[:14]...), of(all...), of(looks(maxSteps + 1)...), {Sectors: -1, Ops: all}, of(api.Op{Kind: api.OpSend, Data: make([]byte, maxScript)})}
	for range 300 {
		x := s.script()
		if len(x.Ops) > 0 && s.IntN(2) == 0 {
			i := s.IntN(len(x.Ops))
			x.Ops[i] = s.spoilOp(x.Ops[i])
		}
		out = append(out, x)
	}
	return out
}

// P0.3: Print leaves what it is handed as it was, what lies around it too, and keeps none of it: written over, it changes neither the text nor what is answered next.
func TestPrintLeavesItsLists(t *testing.T) {
	for _, x := range manyScripts() {
		w := &watch{}
		text, e := script.Print(w.script(x))
		w.wantUnchanged(t, "Print")
		was := strings.Clone(text)
		w.writeOver()
		again, againE := script.Print(x)
		if text != was || again != was || e != againE {
			t.Errorf("Print = %s, %d, what was handed in written over %s, %d", brief(was), e, brief(text), againE)
		}
		w.wantUnchanged(t, "Print, another one") // what was written over stays so
	}
}

// P0.3: PrintChanges likewise.
func TestPrintChangesLeavesItsLists(t *testing.T) {
	s := newSampler(12)
	for range 300 {
		l := s.changes()
		if len(l) > 0 && s.IntN(2) == 0 {
			i := s.IntN(len(l))
			l[i] = s.spoilChange(l[i])
		}
		w := &watch{}
		text, e := script.PrintChanges(w.changes(l))
		w.wantUnchanged(t, "PrintChanges")
		was := strings.Clone(text)
		w.writeOver()
		again, againE := script.PrintChanges(l)
		if text != was || again != was || e != againE {
			t.Errorf("PrintChanges = %s, %d, what was handed in written over %s, %d", brief(was), e, brief(text), againE)
		}
		w.wantUnchanged(t, "PrintChanges, another one")
	}
}

// answer is all lists that a call hands out.
type answer struct {
	ops     [][]api.Op
	bytes   [][]byte
	changes [][]api.Change
	faults  [][]api.Fault
	keeps   [][]bool
}

func (a *answer) gatherChanges(l []api.Change) {
	a.changes = append(a.changes, l)
	for _, c := range l {
		a.bytes = append(a.bytes, c.Key)
	}
}

func (a *answer) gather(s api.Script) {
	a.ops = append(a.ops, s.Ops)
	for _, o := range s.Ops {
		a.bytes, a.faults, a.keeps = append(a.bytes, o.Data), append(a.faults, o.Faults), append(a.keeps, o.Keep)
		a.gatherChanges(o.Changes)
	}
}

// texts that Parse and ParseChanges read, with more than one list of each kind in them, some of them alike, some empty.
func memoryTexts() (scripts, changes []string) {
	scripts = []string{
		head, head + "look 1", head + "send 1 0a\nsend 1 0a\njunk 1 -\nsend 1 -", head + "crash 0 01\ncrash 0 01\ncrash 0 -", head + "arm 0 io 1\narm 0 io 1\narm 0\narm 0 power 1 io 2",
		head + "commit 0 add 1 0a 1 , add 1 0a 1 , remove 1\ncommit 0 add 1 0a 1 , setkey 1 0a 1\ncommit 0\ncommit 0",
	}
	changes = []string{"", "remove 1", "add 1 0a 1 , add 1 0a 1", "add 1 - 1 , setkey 1 - 1 , remove 1"}
	s := newSampler(13)
	for range 60 {
		text, _ := script.Print(s.script())
		scripts = append(scripts, s.noisy(text))
		text, _ = script.PrintChanges(s.changes())
		changes = append(changes, text)
	}
	return scripts, changes
}

func answerOf(scripts, changes []string) *answer {
	a := &answer{}
	for _, text := range scripts {
		s, _, _ := script.Parse(text)
		a.gather(s)
	}
	for _, text := range changes {
		l, _ := script.ParseChanges(text)
		a.gatherChanges(l)
	}
	return a
}

func each[T any](l [][]T, do func([]T) []T) [][]T {
	var out [][]T
	for _, one := range l {
		out = append(out, do(one))
	}
	return out
}

// clone copies lists and what their things have.
func (a *answer) clone() *answer {
	return &answer{
		ops: each(a.ops, func(l []api.Op) []api.Op {
			out := slices.Clone(l)
			for i, o := range l {
				out[i].Data, out[i].Changes, out[i].Faults, out[i].Keep = bytes.Clone(o.Data), cloneChanges(o.Changes), slices.Clone(o.Faults), slices.Clone(o.Keep)
			}
			return out
		}),
		bytes: each(a.bytes, bytes.Clone), changes: each(a.changes, cloneChanges), faults: each(a.faults, slices.Clone), keeps: each(a.keeps, slices.Clone),
	}
}

func cloneChanges(l []api.Change) []api.Change {
	out := slices.Clone(l)
	for i, c := range l {
		out[i].Key = bytes.Clone(c.Key)
	}
	return out
}

func sameLists[T any](a, b [][]T, same func(a, b T) bool) bool {
	return slices.EqualFunc(a, b, func(a, b []T) bool { return slices.EqualFunc(a, b, same) })
}

func wantAnswer(t *testing.T, what string, got, want *answer) {
	t.Helper()
	if !sameLists(got.ops, want.ops, sameOp) || !sameLists(got.bytes, want.bytes, equal) || !sameLists(got.changes, want.changes, sameChange) || !sameLists(got.faults, want.faults, equal) || !sameLists(got.keeps, want.keeps, equal) {
		t.Errorf("%s: the answer is another one", what)
	}
}

// filled writes over a list and its spare room.
func filled[T any](l []T, x T) {
	l = l[:cap(l)]
	for i := range l {
		l[i] = x
	}
}

// spoil writes over all of it.
func (a *answer) spoil() {
	for _, b := range a.bytes {
		filled(b, 0x55)
	}
	for _, l := range a.faults {
		filled(l, api.Fault{At: 55, Kind: 55})
	}
	for _, l := range a.keeps {
		filled(l, true)
	}
	for _, l := range a.changes {
		filled(l, remove(55))
	}
	for _, l := range a.ops {
		filled(l, look(55))
	}
}

// P0.3: what was answered is written over, its spare room too, without a change of what is answered next or was answered ahead.
func TestAnswersWrittenOver(t *testing.T) {
	scripts, changes := memoryTexts()
	elder := answerOf(scripts, changes)
	want := elder.clone()
	for range 3 {
		answerOf(scripts, changes).spoil()
		wantAnswer(t, "an elder answer", elder, want)
	}
	elder.spoil()
	wantAnswer(t, "a new answer", answerOf(scripts, changes), want)
}

// marked writes a mark of its own over each list with its spare room, and looks whether all marks stand then.
func marked[T any](t *testing.T, what string, lists [][]T, mark func(int) T, same func(a, b T) bool) {
	t.Helper()
	for k, l := range lists {
		filled(l, mark(k))
	}
	for k, l := range lists {
		if slices.ContainsFunc(l[:cap(l)], func(x T) bool { return !same(x, mark(k)) }) {
			t.Errorf("%s: the list %d shows what was written into another one", what, k)
		}
	}
}

// P0.3: no two lists share anything, of one answer or of two, spare room too.
func TestAnswersApart(t *testing.T) {
	scripts, changes := memoryTexts()
	a := answerOf(append(scripts, scripts...), append(changes, changes...))
	if len(a.ops) < 100 || len(a.bytes) < 1000 || len(a.changes) < 500 || len(a.faults) < 500 || len(a.keeps) < 500 {
		t.Fatalf("%d, %d, %d, %d, %d lists", len(a.ops), len(a.bytes), len(a.changes), len(a.faults), len(a.keeps))
	}
	// What is less than a number can't tell all lists: their numbers are marked by their digits, one behind the other.
	for shift := range 16 {
		marked(t, "bytes", a.bytes, func(k int) byte { return byte(k >> shift) }, equal)
		marked(t, "bits", a.keeps, func(k int) bool { return k>>shift%2 == 1 }, equal)
	}
	marked(t, "faults", a.faults, func(k int) api.Fault { return api.Fault{At: k} }, equal)
	marked(t, "changes", a.changes, func(k int) api.Change { return remove(k) }, sameChange)
	marked(t, "steps", a.ops, func(k int) api.Op { return look(k) }, sameOp)
}

// P0.3: the spare room of what is answered shows no other list.
func TestSpareRoom(t *testing.T) {
	scripts, changes := memoryTexts()
	a := answerOf(scripts, changes)
	want, room := a.clone(), &answer{}
	for _, l := range a.ops {
		room.gather(api.Script{Ops: l[len(l):cap(l)]})
	}
	for _, l := range a.changes {
		room.gatherChanges(l[len(l):cap(l)])
	}
	room.spoil()
	wantAnswer(t, "what lies in spare room written over", a, want)
}

// grown is an answer with more at the end of each list, laid there one by one, so that the spare room is used where there is some.
func (a *answer) grown(n int) *answer {
	out := a
	for range n {
		out = &answer{
			ops: each(out.ops, func(l []api.Op) []api.Op { return append(l, look(66)) }), bytes: each(out.bytes, func(l []byte) []byte { return append(l, 0x66) }),
			changes: each(out.changes, func(l []api.Change) []api.Change { return append(l, remove(66)) }), faults: each(out.faults, func(l []api.Fault) []api.Fault { return append(l, api.Fault{At: 66}) }), keeps: each(out.keeps, func(l []bool) []bool { return append(l, true) }),
		}
	}
	return out
}

// P0.3: what was answered is grown without a change of anything else.
func TestAnswersGrown(t *testing.T) {
	const more = 40
	scripts, changes := memoryTexts()
	one, two := answerOf(scripts, changes), answerOf(scripts, changes)
	want := two.clone()
	big := one.grown(more)
	wantAnswer(t, "another answer grown", two, want)
	wantAnswer(t, "all grown, their beginnings", one, want)
	wantAnswer(t, "grown", &answer{each(big.ops, cut[api.Op](more)), each(big.bytes, cut[byte](more)), each(big.changes, cut[api.Change](more)), each(big.faults, cut[api.Fault](more)), each(big.keeps, cut[bool](more))}, want)
	for _, l := range big.bytes {
		if !bytes.Equal(l[len(l)-more:], bytes.Repeat([]byte{0x66}, more)) {
			t.Errorf("what was appended has become %x", l[len(l)-more:])
		}
	}
}

// cut takes the last n off a list.
func cut[T any](n int) func([]T) []T {
	return func(l []T) []T { return l[:len(l)-n] }
}

// P0.3: what Print is handed may be what Parse has answered, and the other way round: each is its owner's.
func TestHandedOn(t *testing.T) {
	scripts, _ := memoryTexts()
	for _, text := range scripts {
		s, _, _ := script.Parse(text)
		printed, _ := script.Print(s)
		want := strings.Clone(printed)
		a := &answer{}
		a.gather(s)
		a.spoil()
		again, _, _ := script.Parse(printed)
		if once, e := script.Print(again); printed != want || once != want || e != api.OK {
			t.Errorf("Print of %s, its script written over: %s, then %s, %d", brief(want), brief(printed), brief(once), e)
		}
	}
}
