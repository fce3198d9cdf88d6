package world_test

import (
	"fmt"
	"slices"
	"strings"
	"sync"
	"testing"

	"culvert/api"
	"culvert/world"
)

// hands does something by many hands at one time, each with its number, and waits for all of them.
func hands(many int, do func(hand int)) {
	var all sync.WaitGroup
	for hand := range many {
		all.Go(func() { do(hand) })
	}
	all.Wait()
}

// gathered are things that many hands lay down.
type gathered[T any] struct {
	lock sync.Mutex
	all  []T
}

func (g *gathered[T]) lay(l ...T) {
	g.lock.Lock()
	defer g.lock.Unlock()
	g.all = append(g.all, l...)
}

// shown are lines, in an order that does not hang on the hands.
func shown(l []api.Event) []string {
	var out []string
	for _, e := range l {
		out = append(out, plainShow(e))
	}
	slices.Sort(out)
	return out
}

// P23.9, Ways: hands that step one world wait for one another: of many that send, copy and throw junk each packet has a number of its own, and none is left out.
func TestHandsSend(t *testing.T) {
	t.Parallel()
	x := laid(t, 64)
	var numbers gathered[int]
	hands(12, func(hand int) {
		for i := range 20 {
			op := []api.Op{sendOf(hand%2, pay(fmt.Sprintf("10.%d.0.1", hand%2), fmt.Sprintf("10.%d.0.1", 1-hand%2), fmt.Sprint(i))), junk(hand%2, []byte{byte(i)}), {Kind: api.OpRekey, A: hand % 2, Link: 7}}[i%3]
			l := x.w.Step(op)
			if len(l) != 1 || l[0].Kind != api.EvSent {
				t.Errorf("%s: %s", brief(op), linesOf(l))
				continue
			}
			numbers.lay(l[0].K)
		}
	})
	slices.Sort(numbers.all)
	for i, no := range numbers.all {
		if no != i+1 {
			t.Fatalf("the numbers are %v", numbers.all)
		}
	}
	if len(numbers.all) != 240 || !slices.Equal(numbers.all, x.numbers()) {
		t.Fatalf("%d numbers", len(numbers.all))
	}
}

// P23.9, Ways: many hands give and drop the same packets: each goes to one hand, and is delivered once.
func TestHandsGive(t *testing.T) {
	t.Parallel()
	x := laid(t, 64)
	x.lines("crash 1 -; boot 1 4 1024") // so that they may come in any order
	for no := 1; no <= 200; no++ {
		x.does(sendOf(0, pay("10.0.0.1", "10.1.0.1", fmt.Sprint(no))), fmt.Sprintf("sent 0 7 %d", no))
	}
	var came gathered[api.Event]
	hands(8, func(hand int) {
		for i := range 200 {
			no := 1 + (i+25*hand)%200
			op := give(no)
			if no%5 == 0 {
				op.Kind = api.OpDrop
			}
			for _, e := range x.w.Step(op) {
				if e.Kind != api.EvRefused {
					came.lay(e)
				} else if e.Code != errNoFlight {
					t.Errorf("%s", plainShow(e))
				}
			}
		}
	})
	var want []string
	for no := 1; no <= 200; no++ {
		if no%5 == 0 {
			want = append(want, "done 0")
		} else {
			want = append(want, fmt.Sprintf("delivered 1 7 %x", pay("10.0.0.1", "10.1.0.1", fmt.Sprint(no))))
		}
	}
	slices.Sort(want)
	if got := shown(came.all); !slices.Equal(got, want) {
		t.Fatalf("%d came: %s", len(got), short(strings.Join(got, "; ")))
	}
}

// P23.9, Ways: many runs at one time give each packet once, and each round is one step: nothing comes between its gives.
func TestHandsRun(t *testing.T) {
	t.Parallel()
	x := laid(t, 64)
	for no := 1; no <= 300; no++ {
		x.does(sendOf(0, pay("10.0.0.1", "10.1.0.1", fmt.Sprint(no))), fmt.Sprintf("sent 0 7 %d", no))
	}
	var rounds gathered[int]
	hands(8, func(hand int) {
		if hand < 4 {
			for range 5 {
				rounds.lay(len(x.w.Step(api.Op{Kind: api.OpRun, K: 1 + hand})))
			}
			return
		}
		for range 30 {
			if n := len(x.w.Under()); n != 300 && n != 0 {
				t.Errorf("%d packets are under way in the midst of a run", n)
			}
		}
	})
	slices.Sort(rounds.all)
	if rounds.all[19] != 300 || rounds.all[18] != 0 {
		t.Fatalf("the runs gave %v", rounds.all)
	}
}

// P23.9, Ways: hands that crash, boot, commit, arm and look: what is seen is always what stands between two steps.
func TestHandsPower(t *testing.T) {
	t.Parallel()
	x := laid(t, 64)
	var ups, downs gathered[int]
	hands(9, func(hand int) {
		for i := range 12 {
			switch hand % 3 {
			case 0:
				for _, e := range x.w.Step(api.Op{Kind: api.OpCrash, A: 0}) {
					downs.lay(e.K)
				}
			case 1:
				for _, e := range x.w.Step(api.Op{Kind: api.OpBoot, A: 0, Params: api.Params{Block: 1 + i, Width: 64}}) {
					if e.Kind == api.EvUp {
						ups.lay(e.K)
					} else if e.Code != errIsUp {
						t.Errorf("%s", plainShow(e))
					}
				}
			default:
				wantWhole(t, x.w, i)
			}
		}
	})
	slices.Sort(ups.all)
	for i, boots := range ups.all {
		if boots != i+2 {
			t.Fatalf("the boots are %v", ups.all)
		}
	}
	if len(downs.all) != 36 || slices.Max(downs.all) != 0 {
		t.Fatalf("the crashes found %v", downs.all)
	}
}

// wantWhole: a look and a commit at a node that others crash and boot meanwhile.
func wantWhole(t *testing.T, w *world.World, i int) {
	t.Helper()
	l := w.Step(api.Op{Kind: api.OpLook, A: 0})
	if l[0].K == 0 && len(l) != 1 || l[0].K == 1 && (len(l) != 4 || l[1].Kind != api.EvUp || len(l[2].Peer.Prefixes) == 2) {
		t.Errorf("half of something is seen: %s", linesOf(l))
	}
	wide := []api.Change{{Kind: api.ChDeny, Link: 7, Prefix: pre("10.1.0.0/16")}, {Kind: api.ChAllow, Link: 7, Prefix: pre("10.1.0.0/16")}}
	if l := w.Step(commitOf(0, wide...)); len(l) != 1 || l[0].Kind == api.EvRefused && l[0].Code != errDown {
		t.Errorf("%d: %s", i, linesOf(l))
	}
	if len(w.Durable(0)) != 64*512 {
		t.Error("Durable is something else")
	}
}

// P23.9: many hands, each with a world of its own: each world is what it is by itself.
func TestHandsOwnWorlds(t *testing.T) {
	t.Parallel()
	x := newSampler(1234).script(t, 60)
	n := sectorsOf(x.w)
	hands(8, func(int) {
		w := world.New(n)
		for i, op := range x.past {
			if got := w.Step(op); !sameEvents(got, x.told[i]) {
				t.Errorf("the step %d: %s, want %s", i, linesOf(got), linesOf(x.told[i]))
			}
		}
	})
}

// P23.9, Ways: hands that do anything, at one time: the world is behind that what its steps, in some order, make of it; so it still answers as a world does.
func TestHandsAny(t *testing.T) {
	t.Parallel()
	x := newSampler(4321).script(t, 200)
	w := world.New(sectorsOf(x.w))
	hands(8, func(hand int) {
		for i := range x.past {
			op := x.past[(i+hand*len(x.past)/8)%len(x.past)]
			for _, e := range w.Step(op) {
				if !sameEvent(e, bare(e)) || plainShow(e) == "" {
					t.Errorf("%s: %+v", brief(op), e)
				}
			}
			w.Under()
			w.Durable(hand % 3)
		}
	})
	for a := range 2 {
		w.Step(api.Op{Kind: api.OpCrash, A: a})
		if l := w.Step(api.Op{Kind: api.OpBoot, A: a, Params: api.Params{Block: 1, Width: 64}}); l[0].Kind != api.EvUp {
			t.Errorf("%s", linesOf(l))
		}
	}
}
