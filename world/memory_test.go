package world_test

import (
	"bytes"
	"fmt"
	"slices"
	"testing"

	"culvert/api"
	"culvert/world"
)

// Beside these, all steps that go through both (see there) hand in lists in the midst of longer ones, write over them behind the step, and write over all that is handed out.

// P0.3: what is handed in is not kept: one memory for all steps, changed by its owner between them.
func TestOneMemoryForAll(t *testing.T) {
	t.Parallel()
	x := begin(t, 64)
	x.lines("boot 0 4 64; boot 1 4 64")
	k, prefixes := make([]byte, 32), []string{"10.1.0.0/16", "10.0.0.0/16"}
	changes := make([]api.Change, 2, 9)
	for a := range 2 {
		copy(k, key(1))
		changes[0] = api.Change{Kind: api.ChAdd, Link: 7, Key: k, Side: a}
		changes[1] = api.Change{Kind: api.ChAllow, Link: 7, Prefix: pre(prefixes[a])}
		x.does(commitOf(a, changes...), fmt.Sprintf("done %d", a))
		clear(k)
		clear(changes)
	}
	b := make([]byte, 11, 99)
	for no := 1; no <= 20; no++ {
		copy(b, pay("10.0.0.1", "10.1.0.1", fmt.Sprintf("%02d", no)))
		x.does(sendOf(0, b), fmt.Sprintf("sent 0 7 %d", 2*no-1))
		copy(b, fmt.Sprintf("junk %06d", no))
		x.does(junk(1, b), fmt.Sprintf("sent -1 0 %d", 2*no))
		clear(b)
	}
	for no := 1; no <= 20; no++ {
		if f := x.flight(2 * no); string(f.Data) != fmt.Sprintf("junk %06d", no) {
			x.fail("%d is %q", 2*no, f.Data)
		}
		x.does(give(2*no-1), fmt.Sprintf("delivered 1 7 %x", pay("10.0.0.1", "10.1.0.1", fmt.Sprintf("%02d", no))))
	}
	faults := []api.Fault{{At: 3, Kind: api.FaultIO}}
	x.does(api.Op{Kind: api.OpArm, A: 0, Faults: faults}, "done 0")
	faults[0] = api.Fault{At: 1, Kind: api.FaultPower}
	x.says("commit 0 allow 7 12.0.0.0/8", "done 0")
	x.says("commit 0 deny 7 12.0.0.0/8", "refused 0 201")
	x.says("arm 0", "done 0") // the power is on
}

// rich is a world whose looks have all kinds of lists, and a step that delivers.
func rich(t *testing.T) *trial {
	t.Helper()
	x := laid(t, 64)
	x.lines("commit 1 allow 7 12.0.0.0/8 , add 9 K3 0 , allow 9 fd00:0000:0000:0000:0000:0000:0000:0000/8 , allow 9 13.0.0.0/8")
	x.lines("send 0 " + there + "; copy 1; junk 1 -; junk 1 0102; send 1 " + back)
	return x
}

// listsOf are all lists of bytes in events and flights.
func listsOf(l []api.Event, under []api.Flight) [][]byte {
	var out [][]byte
	for _, e := range l {
		out = append(out, e.Data, e.Peer.Key, e.Lane.Key, e.Flight.Data)
	}
	for _, f := range under {
		out = append(out, f.Data)
	}
	return out
}

// P0.3: no two lists of bytes that are handed out share anything, of one answer or of two, spare room too.
func TestAnswersApart(t *testing.T) {
	t.Parallel()
	x := rich(t)
	look := api.Op{Kind: api.OpLook, A: 1}
	want := tellOf(x.w)
	var all [][]byte
	for range 2 {
		all = append(all, listsOf(x.w.Step(look), x.w.Under())...)
		all = append(all, x.w.Durable(0), x.w.Durable(1))
	}
	all = slices.DeleteFunc(all, func(b []byte) bool { return cap(b) == 0 })
	if len(all) < 20 || len(all) > 250 {
		t.Fatalf("%d lists", len(all))
	}
	for i, b := range all {
		for at := range b[:cap(b)] {
			b[:cap(b)][at] = byte(i)
		}
	}
	for i, b := range all {
		if whole := b[:cap(b)]; bytes.Count(whole, []byte{byte(i)}) != len(whole) {
			t.Errorf("the list %d shows what was written into another one", i)
		}
	}
	if d := want.differs(tellOf(x.w)); d != "" {
		x.fail("what was written into answers shows in %s", d)
	}
}

// P0.3: what is delivered is the caller's: written over and grown, it shows nowhere.
func TestDeliveredIsTheCallers(t *testing.T) {
	t.Parallel()
	x := rich(t)
	one := x.w.Step(give(1))
	before := tellOf(x.w)
	for _, e := range one {
		b := append(e.Data[:cap(e.Data)], 1, 2, 3)
		for i := range b {
			b[i] ^= 0xA5
		}
		for i := range e.Data {
			e.Data[i] ^= 0xA5
		}
	}
	clear(one[:cap(one)])
	if d := before.differs(tellOf(x.w)); d != "" {
		x.fail("%s has changed", d)
	}
	x.says("give 2", "dropped 1 213")
	x.says("send 0 "+there, "sent 0 7 6")
	x.says("give 6", "delivered 1 7 040a0000010a0100016869")
}

// P0.3: each list of an answer is grown without a change of any other one: the events, prefixes, flights too.
func TestAnswersGrown(t *testing.T) {
	t.Parallel()
	x := rich(t)
	look := api.Op{Kind: api.OpLook, A: 1}
	first, second := x.w.Step(look), x.w.Step(look)
	want := copiedEvents(first)
	if len(want) < 9 {
		t.Fatalf("%s", linesOf(want))
	}
	under := x.w.Under()
	for range 100 {
		for i := range first {
			e := &first[i]
			e.Peer.Key = append(e.Peer.Key, 0x66)
			e.Lane.Key = append(e.Lane.Key, 0x66)
			e.Flight.Data = append(e.Flight.Data, 0x66)
			e.Peer.Prefixes = append(e.Peer.Prefixes, api.Prefix{Bits: -66})
		}
		first = append(first, api.Event{Kind: -66})
		for i := range under {
			under[i].Data = append(under[i].Data, 0x66)
		}
		under = append(under, api.Flight{No: -66})
	}
	if !sameEvents(second, want) || !sameEvents(x.w.Step(look), want) {
		t.Error("an answer that has grown shows in another one")
	}
	for i := range want {
		e := first[i]
		own := []bool{bytes.Equal(e.Peer.Key[:len(want[i].Peer.Key)], want[i].Peer.Key), bytes.Equal(e.Lane.Key[:len(want[i].Lane.Key)], want[i].Lane.Key),
			bytes.Equal(e.Flight.Data[:len(want[i].Flight.Data)], want[i].Flight.Data), slices.Equal(e.Peer.Prefixes[:len(want[i].Peer.Prefixes)], want[i].Peer.Prefixes)}
		if slices.Contains(own, false) {
			t.Errorf("the event %d shows what another one was grown by", i)
		}
	}
}

// P0.3: elder answers stay as they were, whatever the world does.
func TestElderAnswers(t *testing.T) {
	t.Parallel()
	x := rich(t)
	elder := tellOf(x.w)
	given := x.w.Step(give(1))
	var was told
	for i := range elder.durable {
		was.durable[i] = bytes.Clone(elder.durable[i])
		was.looks[i] = copiedEvents(elder.looks[i])
	}
	for _, f := range elder.under {
		f.Data = bytes.Clone(f.Data)
		was.under = append(was.under, f)
	}
	wasGiven := copiedEvents(given)
	for at := range 40 {
		x.step(api.Op{Kind: api.OpFlip, K: 2, At: at, X: 255})
	}
	x.lines("commit 1 deny 7 10.0.0.0/16 , remove 9; run 2; tick 0 5.000000000; rekey 0 7; run 2; crash 1 -; boot 1 8 64; send 0 " + there)
	x.lines("crash 0 -; crash 1 -; boot 0 4 64; boot 1 4 64")
	if d := elder.differs(was); d != "" || !sameEvents(given, wasGiven) {
		x.fail("an elder answer has changed: %s", d)
	}
}

// P0.3: what a world hands out may be handed in again, to it and to another one, and be written over behind that.
func TestAnswersHandedIn(t *testing.T) {
	t.Parallel()
	x := rich(t)
	f := x.flight(1)
	want := bytes.Clone(f.Data)
	other := laid(t, 64)
	x.does(junk(1, f.Data), "sent -1 0 6")
	other.does(junk(1, f.Data), "sent -1 0 1")
	got := x.w.Step(give(6))
	x.past = append(x.past, give(6))
	payload := got[0].Data
	wantPayload := bytes.Clone(payload)
	other.does(sendOf(0, payload), "sent 0 7 2")
	clear(f.Data)
	clear(payload)
	if !bytes.Equal(x.flight(1).Data, want) || !bytes.Equal(other.flight(1).Data, want) {
		t.Error("what was handed in was kept")
	}
	other.does(give(2), fmt.Sprintf("delivered 1 7 %x", wantPayload))
	other.does(give(1), "dropped 1 213")
}

// P23.7: Show changes nothing of what it is handed, spare room too.
func TestShowMemory(t *testing.T) {
	t.Parallel()
	data, allData := roomy([]byte{1, 2, 0xAB}, 0x77)
	prefixes, allPrefixes := roomy([]api.Prefix{pre("10.0.0.0/8"), pre("fd00::/8")}, api.Prefix{Bits: 77})
	wasData, wasPrefixes := slices.Clone(allData), slices.Clone(allPrefixes)
	for kind := range 16 {
		e := api.Event{Kind: kind, Data: data, Peer: api.Peer{Key: data, Prefixes: prefixes}, Lane: api.Lane{Key: data}, Flight: api.Flight{Data: data}}
		first := world.Show(e)
		if !slices.Equal(allData, wasData) || !slices.Equal(allPrefixes, wasPrefixes) {
			t.Fatalf("Show of the kind %d has changed what was handed in", kind)
		}
		clear(data)
		if first != "" && kind == api.EvDelivered && first != "delivered 0 0 0102ab" {
			t.Errorf("%q", first)
		}
		copy(data, wasData[40:])
	}
}
