package world_test

import (
	"fmt"
	"math"
	"slices"
	"testing"

	"culvert/api"
)

func oddNodes() []int {
	return []int{-1, 2, 3, -2, 255, 256, 1 << 32, 1<<32 + 1, -1 << 32, math.MinInt, math.MinInt + 1, math.MaxInt - 1, math.MaxInt}
}

// full is a step of a kind with something in each field; what its kind has may be, but for what the state asks.
func full(kind int) api.Op {
	return api.Op{Kind: kind, A: 1, K: 1, At: 2, X: 3, Link: 7, Data: []byte{4, 10, 0, 0, 1, 10, 1, 0, 1}, Stamp: stampOf(5, 6), Params: api.Params{Block: 4, Width: 64},
		Changes: []api.Change{{Kind: api.ChAllow, Link: 7, Prefix: pre("12.0.0.0/8")}}, Faults: []api.Fault{{At: 9, Kind: api.FaultIO}}, Keep: []bool{true, false}}
}

// P23.2: a kind that is none is ErrStep, and A is 0 in it, whatever else the step says.
func TestNoSuchStep(t *testing.T) {
	t.Parallel()
	for _, x := range []*trial{begin(t, 64), laid(t, 64)} {
		for _, kind := range []int{0, 15, 16, -1, -14, 255, 256, 257, 1<<32 + 1, math.MinInt, math.MaxInt} {
			x.wantRefused(api.Op{Kind: kind}, 0, errStep)
			x.wantRefused(full(kind), 0, errStep)
			for _, a := range oddNodes() {
				op := full(kind)
				op.A = a
				x.wantRefused(op, 0, errStep)
			}
		}
	}
}

// P23.3: A that is neither 0 nor 1 is ErrArg ahead of all else, and is told as it is; also where all else is wrong too.
func TestNoSuchNode(t *testing.T) {
	t.Parallel()
	down, up := begin(t, 64), laid(t, 64)
	up.says("send 0 "+there, "sent 0 7 1")
	for kind := 1; kind <= 14; kind++ {
		if !named(kind) {
			continue
		}
		for _, a := range oddNodes() {
			wrong := api.Op{Kind: kind, A: a, Link: -1, Data: make([]byte, maxJunk+1), Stamp: stampOf(-1, 0), Faults: []api.Fault{{}}, Params: api.Params{}}
			for _, x := range []*trial{down, up} {
				x.wantRefused(wrong, a, errArg)
				right := full(kind)
				right.A = a
				x.wantRefused(right, a, errArg)
			}
		}
	}
}

// P23.2: where the kind has no A, what stands there is not looked at, and a refusal tells 0.
func TestNoAAtAll(t *testing.T) {
	t.Parallel()
	for _, a := range append(oddNodes(), 1) {
		x := laid(t, 64)
		x.says("send 0 "+there, "sent 0 7 1")
		for _, kind := range []int{api.OpGive, api.OpDrop, api.OpCopy, api.OpFlip} {
			x.wantRefused(api.Op{Kind: kind, A: a, K: 9}, 0, errNoFlight)
		}
		x.wantRefused(api.Op{Kind: api.OpRun, A: a}, 0, errArg)
		x.wantRefused(api.Op{Kind: api.OpFlip, A: a, K: 1, At: 1}, 0, errArg)
		x.does(api.Op{Kind: api.OpCopy, A: a, K: 1}, "sent -1 0 2")
		x.does(api.Op{Kind: api.OpFlip, A: a, K: 2, At: 4, X: 1}, "done 0")
		x.does(api.Op{Kind: api.OpDrop, A: a, K: 2}, "done 0")
		x.does(api.Op{Kind: api.OpCopy, A: a, K: 1}, "sent -1 0 3")
		x.does(api.Op{Kind: api.OpGive, A: a, K: 1}, "delivered 1 7 040a0000010a0100016869")
		x.does(api.Op{Kind: api.OpRun, A: a, K: 1}, "dropped 1 213")
	}
}

// has are the fields that a kind has.
func has(kind int) api.Op {
	f, out := full(kind), api.Op{Kind: kind}
	if named(kind) {
		out.A = f.A
	}
	switch kind {
	case api.OpCommit:
		out.Changes = f.Changes
	case api.OpSend, api.OpJunk:
		out.Data = f.Data
	case api.OpRekey:
		out.Link = f.Link
	case api.OpTick:
		out.Stamp = f.Stamp
	case api.OpGive, api.OpDrop, api.OpCopy, api.OpRun:
		out.K = f.K
	case api.OpFlip:
		out.K, out.At, out.X = f.K, f.At, f.X
	case api.OpArm:
		out.Faults = f.Faults
	case api.OpCrash:
		out.Keep = f.Keep
	case api.OpBoot:
		out.Params = f.Params
	}
	return out
}

// P23.2: fields that the kind does not have are not looked at: the step is what it is without them, in worlds in which it is done and in which it is refused.
func TestSpareFields(t *testing.T) {
	t.Parallel()
	makers := []func() *trial{
		func() *trial { return begin(t, 64) },
		func() *trial {
			x := laid(t, 64)
			x.all("send 0 "+there, "arm 1 io 2")
			return x
		},
		func() *trial {
			x := laid(t, 64)
			x.all("commit 0 allow 7 11.0.0.0/8", "commit 1 add 1 K2 0 , allow 1 10.1.0.0/24", "send 0 "+there, "copy 1")
			return x
		},
		func() *trial {
			x := laid(t, 64)
			x.all("arm 1 power 2")
			x.says("rekey 1 7", "refused 1 201")
			return x
		},
	}
	seen := map[string]int{}
	for kind := 1; kind <= 14; kind++ {
		for _, made := range makers {
			x, y := made(), made()
			a, b := x.step(full(kind)), y.step(has(kind))
			if !sameEvents(a, b) {
				t.Errorf("kind %d: %s, and without other fields %s", kind, linesOf(a), linesOf(b))
			}
			if d := tellOf(x.w).differs(tellOf(y.w)); d != "" {
				t.Errorf("kind %d differs in %s", kind, d)
			}
			seen[fmt.Sprint(kind, len(a) > 0 && a[0].Kind == api.EvRefused)]++
			wild := full(kind)
			wild.X, wild.At = math.MinInt, math.MaxInt
			if kind != api.OpFlip && !sameEvents(made().step(wild), a) {
				t.Errorf("kind %d looks at X or At", kind)
			}
		}
	}
	for kind := 1; kind <= 14; kind++ {
		if seen[fmt.Sprint(kind, false)] == 0 {
			t.Errorf("kind %d was never done", kind)
		}
	}
}

// refusal is a step that is refused in a world behind other steps.
type refusal struct {
	ahead []string
	line  string
	want  string
}

// P23.3: each kind's own refusals, alone and two at once.
func TestRefusals(t *testing.T) {
	t.Parallel()
	up := []string{"boot 0 4 64"}
	cut := append(tunnel(), "arm 0 power 1")
	for _, r := range []refusal{
		{nil, "commit 0", "refused 0 200"}, // ahead of ErrChange
		{nil, "commit 1 add 7 K1 0", "refused 1 200"},
		{up, "commit 0", "refused 0 160"},
		{up, "commit 0 remove 7", "refused 0 169"},
		{up, "commit 0 add 0 K1 0", "refused 0 161"},
		{up, "commit 0 add 1 - 0", "refused 0 162"},
		{up, "commit 0 add 1 K1 2", "refused 0 163"},
		{up, "commit 0 add 1 K1 0 , add 1 K2 0", "refused 0 164"},
		{up, "commit 1 add 1 K1 0", "refused 1 200"},
		{nil, "send 0 -", "refused 0 200"}, // ahead of ErrPayload
		{up, "send 0 -", "refused 0 203"},
		{up, "send 0 " + there, "refused 0 204"},
		{tunnel(), "send 0 " + back, "refused 0 204"},
		{nil, "rekey 0 0", "refused 0 200"}, // ahead of ErrLink
		{up, "rekey 0 0", "refused 0 161"},
		{up, "rekey 0 7", "refused 0 169"},
		{append(tunnel(), "tick 0 9223372036854775807.999999999", "rekey 0 7"), "rekey 0 7", "refused 0 206"},
		{nil, "tick 0 5.000000000", "refused 0 200"},
		{nil, "give 1", "refused 0 218"},
		{nil, "drop 1", "refused 0 218"},
		{nil, "copy 1", "refused 0 218"},
		{nil, "flip 1 0 1", "refused 0 218"},
		{nil, "flip 1 0 0", "refused 0 218"}, // ahead of ErrArg
		{[]string{"junk 0 0102"}, "flip 1 2 1", "refused 0 2"},
		{[]string{"junk 0 0102"}, "flip 1 1 0", "refused 0 2"},
		{[]string{"junk 0 0102"}, "flip 1 1 256", "refused 0 2"},
		{[]string{"junk 0 -"}, "flip 1 0 1", "refused 0 2"},
		{[]string{"junk 0 0102", "drop 1"}, "flip 1 0 1", "refused 0 218"},
		{nil, "arm 1 io 0", "refused 1 105"},
		{nil, "arm 1 io 1 power 1", "refused 1 105"},
		{append(cut, "crash 1 -"), "arm 0 io 0", "refused 0 105"},
		{up, "boot 0 4 64", "refused 0 230"},
		{up, "boot 0 0 64", "refused 0 230"}, // ahead of ErrParams
		{up, "boot 1 0 64", "refused 1 202"},
		{up, "boot 1 4 65", "refused 1 202"},
		{nil, "boot 0 1048577 64", "refused 0 202"},
		{nil, "run 0", "refused 0 2"},
		{nil, "run 101", "refused 0 2"},
	} {
		x := begin(t, 64)
		x.all(r.ahead...)
		before := tellOf(x.w)
		x.says(r.line, r.want)
		if d := before.differs(tellOf(x.w)); d != "" {
			x.fail("it has changed something: %s", d)
		}
	}
}

// P23.3: refusals that no text can say: numbers below zero, stamps that are none, changes and faults of no kind.
func TestRefusalsBeyondTexts(t *testing.T) {
	t.Parallel()
	x := laid(t, 64)
	x.all("junk 0 0102")
	for _, n := range []int{math.MinInt, -1 << 32, -1, math.MaxInt, 1<<32 + 1} {
		x.wantRefused(api.Op{Kind: api.OpRekey, A: 1, Link: n}, 1, api.ErrLink)
		for _, kind := range []int{api.OpGive, api.OpDrop, api.OpCopy, api.OpFlip} {
			x.wantRefused(api.Op{Kind: kind, K: n, X: 1}, 0, errNoFlight)
		}
		x.wantRefused(api.Op{Kind: api.OpFlip, K: 1, At: n, X: 1}, 0, errArg)
		x.wantRefused(api.Op{Kind: api.OpFlip, K: 1, X: n}, 0, errArg)
		x.wantRefused(api.Op{Kind: api.OpRun, K: n}, 0, errArg)
		x.wantRefused(api.Op{Kind: api.OpTick, A: 1, Stamp: stampOf(5, n)}, 1, api.ErrStamp)
		if n < 0 {
			x.wantRefused(api.Op{Kind: api.OpTick, A: 0, Stamp: stampOf(n, 5)}, 0, api.ErrStamp)
			x.wantRefused(api.Op{Kind: api.OpArm, A: 1, Faults: []api.Fault{{At: n, Kind: 1}}}, 1, api.ErrArm)
		}
		x.wantRefused(api.Op{Kind: api.OpArm, A: 0, Faults: []api.Fault{{At: 1, Kind: n}}}, 0, api.ErrArm)
		x.wantRefused(commitOf(0, api.Change{Kind: n, Link: 7}), 0, api.ErrChange)
		x.wantRefused(commitOf(1, api.Change{Kind: api.ChRemove, Link: n}), 1, api.ErrLink)
		y := begin(t, 64)
		y.wantRefused(api.Op{Kind: api.OpBoot, A: 1, Params: api.Params{Block: n, Width: 64}}, 1, api.ErrParams)
		y.wantRefused(api.Op{Kind: api.OpBoot, A: 0, Params: api.Params{Block: 1, Width: n}}, 0, api.ErrParams)
		y.wantRefused(api.Op{Kind: api.OpTick, A: 0, Stamp: stampOf(5, n)}, 0, errDown)
		y.wantRefused(api.Op{Kind: api.OpRekey, A: 0, Link: n}, 0, errDown)
	}
	x.wantRefused(commitOf(0, slices.Repeat([]api.Change{{Kind: api.ChRemove, Link: 7}}, 33)...), 0, api.ErrChange)
}

// P23.3: what each kind answers when it is done, at either node.
func TestDone(t *testing.T) {
	t.Parallel()
	for a := range 2 {
		x := begin(t, 64)
		says := func(line, want string) {
			x.t.Helper()
			x.says(fmt.Sprintf(line, a), fmt.Sprintf(want, a))
		}
		says("boot %d 4 64", "up %d 1")
		says("commit %d add 9 K3 1 , allow 9 0.0.0.0/0", "done %d")
		says("tick %d 0.000000000", "done %d")
		says("tick %d 9.000000001", "done %d")
		says("tick %d 3.000000000", "done %d")
		says("send %d "+there, "sent %d 9 1")
		says("rekey %d 9", "sent %d 9 2")
		says("arm %d", "done %d")
		says("arm %d io 7 power 5", "done %d")
		says("look %d", "node %d 1 0; up "+fmt.Sprint(a)+" 1; peer "+fmt.Sprint(a)+" 9 "+spelt("K3")[:64]+" 0.0.0.0/0; lane "+fmt.Sprint(a)+" "+spelt("K3")[:64]+" 1 1 2 4 0 0.000000000")
		x.says(fmt.Sprintf("junk %d 0102", a), "sent -1 0 3")
		says("crash %d 01", "down %d 0 0")
		says("boot %d 1 1024", "up %d 2")
		x.says("copy 3", "sent -1 0 4")
		x.says("flip 4 1 255", "done 0")
		x.says("drop 3", "done 0")
		x.says("give 2", fmt.Sprintf("lost %d", 1-a))
		x.says("run 3", fmt.Sprintf("lost %d; dropped %d 210", 1-a, a))
		x.says("run 100", "")
	}
}

// P23.3: a commit at a node leaves the other one alone; so do a clock, faults, a crash and a boot.
func TestOneNodeAlone(t *testing.T) {
	t.Parallel()
	for a := range 2 {
		for _, line := range []string{"commit %d allow 7 12.0.0.0/8", "tick %d 7.000000000", "arm %d io 1", "crash %d -", "look %d", "send %d pay:10.0.0.1>10.%d.0.1:x", "rekey %d 7"} {
			x := laid(t, 64)
			durable, looked := x.w.Durable(1-a), x.w.Step(api.Op{Kind: api.OpLook, A: 1 - a})
			text := fmt.Sprintf(line, a)
			if line[0] == 's' {
				text = fmt.Sprintf(line, a, 1-a)
			}
			x.all(text)
			l := slices.DeleteFunc(x.w.Step(api.Op{Kind: api.OpLook, A: 1 - a}), func(e api.Event) bool { return e.Kind == api.EvFlight })
			if !slices.Equal(durable, x.w.Durable(1-a)) || !sameEvents(looked, l) {
				x.fail("%s shows at the other node", text)
			}
		}
	}
}
