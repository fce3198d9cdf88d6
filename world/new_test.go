package world_test

import (
	"bytes"
	"math"
	"testing"

	"culvert/api"
	"culvert/disk"
	"culvert/store"
	"culvert/world"
)

// P23.1: which worlds there are.
func TestNewBounds(t *testing.T) {
	t.Parallel()
	for _, n := range []int{math.MinInt, math.MinInt + 64, -1 << 32, -64, -1, 0, 1, 31, 8193, 8194, 1<<32 + 64, math.MaxInt - 1, math.MaxInt} {
		if world.New(n) != nil {
			t.Errorf("New(%d) is a world", n)
		}
	}
	for _, n := range []int{32, 33, 64, 1000, 8191, 8192} {
		w := world.New(n)
		if w == nil || len(w.Durable(0)) != 512*n || len(w.Durable(1)) != 512*n {
			t.Errorf("New(%d) is not a world of so many sectors", n)
		}
	}
}

// P23.1: how a new world stands: two devices behind Format, nothing else.
func TestNewStands(t *testing.T) {
	t.Parallel()
	for _, n := range []int{32, 33, 64, 8192} {
		d := disk.New(n)
		if e := store.Format(d); e != api.OK {
			t.Fatal(e)
		}
		x := begin(t, n)
		for a, line := range []string{"node 0 0 0", "node 1 0 0"} {
			if !bytes.Equal(x.w.Durable(a), d.Durable()) {
				t.Fatalf("the device %d is not what Format makes", a)
			}
			x.does(api.Op{Kind: api.OpLook, A: a}, line)
		}
		x.wantNumbers()
		x.says("junk 0 00", "sent -1 0 1") // no number was given
	}
}

// P23.1: no fault is armed, the power is on, nothing pends, and it is as it was: seen by what steps meet.
func TestNewArmed(t *testing.T) {
	t.Parallel()
	for a := range 2 {
		x := begin(t, 64)
		x.does(api.Op{Kind: api.OpCrash, A: a, Keep: []bool{true, true, true}}, []string{"down 0 0 0", "down 1 0 0"}[a])
		y := begin(t, 64)
		for range 40 {
			y.does(api.Op{Kind: api.OpBoot, A: a, Params: api.Params{Block: 1, Width: 64}}, plainShow(api.Event{Kind: api.EvUp, A: a, K: 1 + len(y.past)/2}))
			y.does(api.Op{Kind: api.OpCrash, A: a}, []string{"down 0 0 0", "down 1 0 0"}[a])
		}
		if x.w.Step(api.Op{Kind: api.OpLook, A: 1 - a})[0].M != 0 || y.w.Step(api.Op{Kind: api.OpLook, A: 1 - a})[0].M != 0 {
			t.Error("the other device was asked something")
		}
	}
}

// P23.1: two worlds are apart from the beginning on, and so are a world's devices.
func TestNewApart(t *testing.T) {
	t.Parallel()
	x, y := laid(t, 64), begin(t, 64)
	if bytes.Equal(x.w.Durable(0), x.w.Durable(1)) || bytes.Equal(x.w.Durable(0), y.w.Durable(0)) {
		t.Error("two devices are one")
	}
	x.says("send 0 "+there, "sent 0 7 1")
	y.wantNumbers()
	y.says("look 0", "node 0 0 0")
}
