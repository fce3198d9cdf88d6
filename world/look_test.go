package world_test

import (
	"bytes"
	"fmt"
	"slices"
	"strings"
	"testing"

	"culvert/api"
	"culvert/world"
)

// P23.3: a look at a node that is not up: how the device stands, and what is under way to it alone.
func TestLookDown(t *testing.T) {
	t.Parallel()
	for a := range 2 {
		x := begin(t, 64)
		x.does(junk(1-a, []byte{1}), "sent -1 0 1")
		x.does(junk(a, []byte{2, 3}), "sent -1 0 2")
		x.does(junk(1-a, []byte{4}), "sent -1 0 3")
		x.does(junk(a, nil), "sent -1 0 4")
		x.does(api.Op{Kind: api.OpLook, A: a}, fmt.Sprintf("node %d 0 0; flight 2 %d 0203; flight 4 %d -", a, a, a))
		x.does(api.Op{Kind: api.OpLook, A: 1 - a}, fmt.Sprintf("node %d 0 0; flight 1 %d 01; flight 3 %d 04", 1-a, 1-a, 1-a))
		x.all(fmt.Sprintf("arm %d power 3", a))
		x.says(fmt.Sprintf("boot %d 4 64", a), fmt.Sprintf("refused %d 201", a))
		x.does(api.Op{Kind: api.OpLook, A: a}, fmt.Sprintf("node %d 0 3; flight 2 %d 0203; flight 4 %d -", a, a, a))
	}
}

// P23.3: a look at a node that is up: boots, peers by link with their prefixes, lanes by key, flights, in this order.
func TestLookUp(t *testing.T) {
	t.Parallel()
	for a := range 2 {
		x := begin(t, 64)
		x.lines(fmt.Sprintf("boot %[1]d 4 64; look %[1]d", a))
		x.says(fmt.Sprintf("look %d", a), fmt.Sprintf("node %d 1 6; up %d 1", a, a))
		x.lines(fmt.Sprintf("commit %d add 300 K1 0 , add 2 K3 1 , allow 2 fd00:0000:0000:0000:0000:0000:0000:0000/8 , allow 2 11.0.0.0/8 , allow 2 10.0.0.0/8 , add 70 K2 0 , allow 70 0.0.0.0/0", a))
		x.lines(fmt.Sprintf("commit %d remove 300; tick %d 3.000000000; rekey %d 70", a, a, a))
		x.does(junk(a, []byte{7}), "sent -1 0 2")
		k := func(n int) string { return strings.TrimSpace(spelt(fmt.Sprint("K", n))) }
		want := []string{
			fmt.Sprintf("node %d 1 12", a),
			fmt.Sprintf("up %d 1", a),
			fmt.Sprintf("peer %d 2 %s 10.0.0.0/8 11.0.0.0/8 fd00:0000:0000:0000:0000:0000:0000:0000/8", a, k(3)),
			fmt.Sprintf("peer %d 70 %s 0.0.0.0/0", a, k(2)),
			fmt.Sprintf("lane %d %s 0 1 0 0 0 0.000000000", a, k(1)),
			fmt.Sprintf("lane %d %s 0 1 2 0 0 0.000000000", a, k(2)),
			fmt.Sprintf("lane %d %s 1 1 0 0 0 0.000000000", a, k(3)),
			fmt.Sprintf("flight 2 %d 07", a),
		}
		for range 3 { // it changes nothing
			x.does(api.Op{Kind: api.OpLook, A: a}, strings.Join(want, "; "))
		}
	}
}

// P23.3: what pends stands ahead of the flights, in the order of its writing. (Of a node that is up nothing pends: the last operation of each of its calls is a flush.)
func TestLookPending(t *testing.T) {
	t.Parallel()
	x := pending(t, "io", 2)
	x.says("junk 0 00", "sent -1 0 1")
	x.says("look 0", "node 0 0 3; pending 0 18; pending 0 19; flight 1 0 00")
	x.says("look 1", "node 1 0 0")
	x.says("arm 0 io 1", "done 0")
	x.says("boot 0 4 64", "refused 0 201") // at its first read
	x.says("look 0", "node 0 0 1; pending 0 18; pending 0 19; flight 1 0 00")
	x.says("boot 0 4 64", "up 0 2") // its flush makes them last
	l := x.step(api.Op{Kind: api.OpLook})
	if linesOf(l[1:]) != "up 0 2; flight 1 0 00" {
		x.fail("%s", linesOf(l))
	}
}

// P23.6: Durable of the two nodes is what lasts, of all other numbers nothing; neither it nor Under changes anything.
func TestDurable(t *testing.T) {
	t.Parallel()
	x := pending(t, "power", 2)
	p := x.plainBehind()
	for _, a := range oddNodes() {
		if len(x.w.Durable(a)) > 0 {
			t.Errorf("Durable(%d) is something", a)
		}
	}
	for range 2 {
		for a := range 2 {
			if !bytes.Equal(x.w.Durable(a), p.devices[a].Durable()) || len(x.w.Durable(a)) != 32*512 {
				t.Errorf("Durable(%d) is something else", a)
			}
		}
	}
	if bytes.Equal(x.w.Durable(0), x.w.Durable(1)) {
		t.Error("the two devices are the same")
	}
	x.says("look 0", "node 0 0 3; pending 0 18; pending 0 19")
	x.says("crash 0 11", "down 0 2 2")
	if bytes.Equal(x.w.Durable(0), p.devices[0].Durable()) {
		t.Error("what survived does not last")
	}
}

// P23.6: Under is all that is under way, to both nodes, by number.
func TestUnder(t *testing.T) {
	t.Parallel()
	x := begin(t, 64)
	if len(x.w.Under()) > 0 {
		t.Error("something is under way in a new world")
	}
	var want []api.Flight
	for no := 1; no <= 300; no++ {
		f := api.Flight{No: no, To: no * no % 3 % 2, Data: bytes.Repeat([]byte{byte(no)}, no%7)}
		x.does(junk(f.To, f.Data), fmt.Sprintf("sent -1 0 %d", no))
		if no%4 == 0 {
			x.does(api.Op{Kind: api.OpDrop, K: no}, "done 0")
		} else {
			want = append(want, f)
		}
	}
	for range 3 {
		if got := x.w.Under(); !slices.EqualFunc(got, want, sameFlight) {
			t.Fatalf("%d are under way, want %d", len(got), len(want))
		}
	}
}

// P23.6: what is asked of a world between its steps changes none of them.
func TestAskedBetween(t *testing.T) {
	t.Parallel()
	for seed := range 5 {
		s := newSampler(uint64(600 + seed))
		x := newBoth(t, s.sectors())
		for range 60 {
			x.do(s.op(x.p))
		}
		quiet := world.New(len(x.w.Durable(0)) / 512)
		for i, op := range x.past {
			if got := quiet.Step(op); !sameEvents(got, x.told[i]) {
				x.fail("%s: %s, and asked between %s", brief(op), linesOf(got), linesOf(x.told[i]))
			}
		}
	}
}
