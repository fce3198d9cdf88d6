package world_test

import (
	"fmt"
	"slices"
	"testing"

	"culvert/api"
	"culvert/world"
)

// script is a world's past: any steps, most of them such as make something happen.
func (s sampler) script(t *testing.T, many int) *both {
	t.Helper()
	x := newBoth(t, s.sectors())
	for _, op := range s.first(t) {
		x.do(op)
	}
	for range many {
		x.do(s.op(x.p))
	}
	return x
}

func sectorsOf(w *world.World) int { return len(w.Durable(0)) / 512 }

// P23.9: the same steps give the same events: at once, and behind other worlds' steps.
func TestSameSteps(t *testing.T) {
	t.Parallel()
	for seed := range 12 {
		x := newSampler(uint64(900+seed)).script(t, 100)
		for range 2 {
			again := world.New(sectorsOf(x.w))
			for i, op := range x.past {
				if got := again.Step(op); !sameEvents(got, x.told[i]) {
					x.fail("the step %d again: %s, and it was %s", i, linesOf(got), linesOf(x.told[i]))
				}
			}
			if d := tellOf(x.w).differs(tellOf(again)); d != "" {
				x.fail("behind the same steps %s differs", d)
			}
		}
	}
}

// P23.9: worlds beside one another, stepped by turns: each is what it is by itself.
func TestWorldsByTurns(t *testing.T) {
	t.Parallel()
	var alone []*both
	for seed := range 5 {
		alone = append(alone, newSampler(uint64(920+seed)).script(t, 90))
	}
	for round := range 3 {
		s := newSampler(uint64(930 + round))
		var worlds []*world.World
		for _, x := range alone {
			worlds = append(worlds, world.New(sectorsOf(x.w)))
		}
		at := make([]int, len(alone))
		for left := len(alone); left > 0; {
			i := s.IntN(len(alone))
			if at[i] == len(alone[i].past) {
				continue
			}
			if got, want := worlds[i].Step(alone[i].past[at[i]]), alone[i].told[at[i]]; !sameEvents(got, want) {
				alone[i].fail("beside others the step %d is %s, by itself %s", at[i], linesOf(got), linesOf(want))
			}
			if at[i]++; at[i] == len(alone[i].past) {
				left--
			}
		}
		for i, x := range alone {
			if d := tellOf(x.w).differs(tellOf(worlds[i])); d != "" {
				t.Fatalf("beside others %s differs", d)
			}
		}
	}
}

// behind is a world behind steps.
func behind(sectors int, ops []api.Op) *world.World {
	w := world.New(sectors)
	for _, op := range ops {
		w.Step(op)
	}
	return w
}

// gives are the steps that give all that is under way, by number.
func gives(w *world.World) []api.Op {
	var out []api.Op
	for _, f := range w.Under() {
		out = append(out, give(f.No))
	}
	return out
}

func stepAll(w *world.World, ops []api.Op) (out []api.Event) {
	for _, op := range ops {
		out = append(out, w.Step(op)...)
	}
	return out
}

// P23.9: a run of K is K runs of 1, and a run of 1 the gives of what is under way ahead of it, behind any steps.
func TestRunIsGives(t *testing.T) {
	t.Parallel()
	rounds := 0
	for seed := range 40 {
		s := newSampler(uint64(940 + seed))
		x := s.script(t, 30+s.IntN(60))
		// Something to be given: inits, data, junk, and perhaps a node that is stopped in the midst.
		for a := range 2 {
			x.do(api.Op{Kind: api.OpBoot, A: a, Params: api.Params{Block: 2, Width: 64}})
		}
		for range 12 {
			a := s.IntN(2)
			x.do(pick(s, sendOf(a, s.payload(a)), api.Op{Kind: api.OpRekey, A: a, Link: 7}, junk(a, s.packet(x.p, a)), api.Op{Kind: api.OpTick, A: a, Stamp: stampOf(30+s.IntN(9), 0)}))
		}
		if s.once(3) {
			x.do(api.Op{Kind: api.OpArm, A: s.IntN(2), Faults: []api.Fault{{At: 1 + s.IntN(8), Kind: 1 + s.IntN(2)}}})
		}
		n := sectorsOf(x.w)
		for _, k := range []int{1, 2, 3, 100} {
			whole, ones, single := behind(n, x.past), behind(n, x.past), behind(n, x.past)
			a := whole.Step(api.Op{Kind: api.OpRun, K: k})
			b := stepAll(ones, slices.Repeat([]api.Op{{Kind: api.OpRun, K: 1}}, k))
			var c []api.Event
			for range k {
				l := gives(single)
				if len(l) > 0 {
					rounds++
				}
				c = append(c, stepAll(single, l)...)
			}
			if !sameEvents(a, b) || !sameEvents(a, c) {
				x.fail("a run of %d: %s; runs of 1: %s; gives: %s", k, linesOf(a), linesOf(b), linesOf(c))
			}
			if d := tellOf(whole).differs(tellOf(ones)) + tellOf(whole).differs(tellOf(single)); d != "" {
				x.fail("behind a run of %d %s differs", k, d)
			}
		}
	}
	if rounds < 200 {
		t.Errorf("only %d rounds gave something", rounds)
	}
}

// P23.2: steps that are refused by anything but the device have changed nothing: without them all others give what they give.
func TestRefusedStepsLeftOut(t *testing.T) {
	t.Parallel()
	left := map[string]int{}
	for seed := range 40 {
		x := newSampler(uint64(980+seed)).script(t, 110)
		w := world.New(sectorsOf(x.w))
		for i, op := range x.past {
			l := x.told[i]
			if op.Kind != api.OpGive && op.Kind != api.OpRun && len(l) == 1 && l[0].Kind == api.EvRefused && l[0].Code != api.ErrDevice {
				left[fmt.Sprintf("kind %d code %d", op.Kind, int(l[0].Code))]++
				continue
			}
			if got := w.Step(op); !sameEvents(got, l) {
				x.fail("without the refused ones the step %d is %s, with them %s", i, linesOf(got), linesOf(l))
			}
		}
		if d := tellOf(x.w).differs(tellOf(w)); d != "" {
			x.fail("without the refused ones %s differs", d)
		}
	}
	for _, what := range []string{"kind 1 code 169", "kind 1 code 200", "kind 2 code 203", "kind 2 code 204", "kind 3 code 169", "kind 4 code 207", "kind 6 code 218", "kind 7 code 218", "kind 8 code 2", "kind 9 code 2", "kind 10 code 105", "kind 12 code 202", "kind 12 code 230"} {
		if left[what] == 0 {
			t.Errorf("%s was never left out", what)
		}
	}
}
