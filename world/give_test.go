package world_test

import (
	"fmt"
	"slices"
	"testing"

	"culvert/api"
)

// P23.3: a number that was never given, that of a packet that was given, and that of one that was dropped.
func TestNoFlight(t *testing.T) {
	t.Parallel()
	x := laid(t, 64)
	x.lines("send 0 " + there + "; send 0 " + there + "; send 0 " + there + "; give 1; drop 2")
	for _, no := range []int{-1, 0, 1, 2, 4, 1025} {
		for _, kind := range []int{api.OpGive, api.OpDrop, api.OpCopy, api.OpFlip} {
			x.wantRefused(api.Op{Kind: kind, K: no, X: 1}, 0, errNoFlight)
		}
	}
	x.wantNumbers(3)
	x.says("give 3", "delivered 1 7 040a0000010a0100016869")
	x.wantRefused(give(3), 0, errNoFlight)
}

// P23.5: what comes to a node that is not up is lost: one that was never booted, one that crashed, one that is stopped.
func TestLost(t *testing.T) {
	t.Parallel()
	for a := range 2 {
		for _, ahead := range []string{"look %d", "crash %d -", "boot %[1]d 4 64; crash %[1]d -", "boot %[1]d 4 64; arm %[1]d io 1"} {
			x := begin(t, 64)
			x.lines(fmt.Sprintf(ahead, a))
			if len(x.past) > 1 && x.past[1].Kind == api.OpArm {
				x.says(fmt.Sprintf("commit %d add 7 K1 0", a), fmt.Sprintf("refused %d 201", a))
			}
			x.says(fmt.Sprintf("junk %d 0102", a), "sent -1 0 1")
			x.says("give 1", fmt.Sprintf("lost %d", a))
			x.wantNumbers()
		}
	}
}

// P23.5: what a node drops, by each reason.
func TestDropped(t *testing.T) {
	t.Parallel()
	x := laid(t, 64)
	x.lines("send 0 " + there + "; run 1")
	good := pay("10.0.0.1", "10.1.0.1", "x")
	for _, row := range []struct {
		packet []byte
		code   int
	}{
		{nil, 210},
		{[]byte{1, 2, 3}, 210},
		{sealed(key(1), 0, headOf(pkData, 8, 1, 1), good), 211},
		{sealed(key(1), 0, headOf(pkData, 7, 2, 1), good), 212},
		{sealed(key(1), 0, headOf(pkInit, 7, 1, 0), stampBytes(stampOf(1, 0))), 212},
		{sealed(key(1), 0, headOf(pkReply, 7, 2, 0), stampBytes(stampOf(1, 0))), 212},
		{sealed(key(1), 0, headOf(pkData, 7, 1, 0), good), 213},
		{sealed(key(2), 0, headOf(pkData, 7, 1, 1), good), 214},
		{sealed(key(1), 1, headOf(pkData, 7, 1, 1), good), 214},
		{sealed(key(1), 0, headOf(pkInit, 7, 2, 0), stampBytes(stampOf(0, 0))), 215},
		{sealed(key(1), 0, headOf(pkData, 7, 1, 1), []byte{5, 1, 1, 1, 1, 2, 2, 2, 2}), 216},
		{sealed(key(1), 0, headOf(pkData, 7, 1, 1), pay("11.0.0.1", "10.1.0.1", "x")), 217},
	} {
		no := x.given() + 1
		x.does(junk(1, row.packet), fmt.Sprintf("sent -1 0 %d", no))
		before := tellOf(x.w)
		x.does(give(no), fmt.Sprintf("dropped 1 %d", row.code))
		behind := tellOf(x.w)
		if string(before.durable[1]) != string(behind.durable[1]) || !sameEvents(before.looks[1][:len(behind.looks[1])], behind.looks[1]) {
			x.fail("a packet that was dropped has changed something")
		}
	}
}

// P23.5: what a node delivers, opens and answers; the answer is sent to the other node, whatever has brought the packet.
func TestTaken(t *testing.T) {
	t.Parallel()
	for a := range 2 {
		b := 1 - a
		from, to := fmt.Sprintf("10.%d.0.1", a), fmt.Sprintf("10.%d.0.1", b)
		x := laid(t, 64)
		x.does(sendOf(a, pay(from, to, "")), fmt.Sprintf("sent %d 7 1", a))
		x.does(give(1), fmt.Sprintf("delivered %d 7 %x", b, pay(from, to, "")))
		x.says(fmt.Sprintf("tick %d 8.000000000", a), fmt.Sprintf("done %d", a))
		x.says(fmt.Sprintf("rekey %d 7", a), fmt.Sprintf("sent %d 7 2", a))
		if f := x.flight(2); f.To != b {
			x.fail("the init goes to %d", f.To)
		}
		x.does(give(2), fmt.Sprintf("sent %d 7 3", b))
		f := x.flight(3)
		text, ok := opened(key(1), b, f.Data)
		if h, _ := readHead(f.Data); f.To != a || !ok || h != headOf(pkReply, 7, 2, 0) || !slices.Equal(text, stampBytes(stampOf(8, 0))) {
			x.fail("the answer is %+v, to %d", h, f.To)
		}
		x.does(give(3), fmt.Sprintf("opened %d 7", a))
		x.wantNumbers()
		// An init out of the script's hand.
		x.does(junk(a, sealed(key(1), b, headOf(pkInit, 7, 9, 4), stampBytes(stampOf(9, 0)))), "sent -1 0 4")
		x.does(give(4), fmt.Sprintf("sent %d 7 5", a))
		if f := x.flight(5); f.To != b {
			x.fail("the answer goes to %d", f.To)
		}
		x.does(give(5), fmt.Sprintf("dropped %d 212", b))
	}
}

// P23.4: what a node sends goes to the other node, whatever link it has; what it carries is the whole packet.
func TestSentToTheOther(t *testing.T) {
	t.Parallel()
	for a := range 2 {
		x := begin(t, 64)
		x.lines(fmt.Sprintf("boot %[1]d 4 64; commit %[1]d add 1 K1 0 , allow 1 10.1.0.0/16 , add 4294967295 K2 1 , allow 4294967295 10.2.0.0/16", a))
		for i, row := range []struct{ key, side, link int }{{1, 0, 1}, {2, 1, maxLink}} {
			payload := pay("9.9.9.9", fmt.Sprintf("10.%d.0.1", i+1), "abc")
			x.does(sendOf(a, payload), fmt.Sprintf("sent %d %d %d", a, row.link, 2*i+1))
			x.says(fmt.Sprintf("rekey %d %d", a, row.link), fmt.Sprintf("sent %d %d %d", a, row.link, 2*i+2))
			f := x.flight(2*i + 1)
			text, ok := opened(key(row.key), row.side, f.Data)
			if !ok || f.To != 1-a || !slices.Equal(text, payload) {
				x.fail("%x goes to %d", text, f.To)
			}
			if f := x.flight(2*i + 2); f.To != 1-a || len(f.Data) != 48 {
				x.fail("an init of %d bytes goes to %d", len(f.Data), f.To)
			}
		}
	}
}

// P23.3: a copy is the same packet once more, to the same node; a flip is of one alone; what is spoilt is dropped, and the copy is not.
func TestCopyAndFlip(t *testing.T) {
	t.Parallel()
	x := laid(t, 64)
	x.says("send 0 "+there, "sent 0 7 1")
	x.says("copy 1", "sent -1 0 2")
	x.says("flip 1 40 128", "done 0")
	x.says("copy 1", "sent -1 0 3")
	one, two, three := x.flight(1), x.flight(2), x.flight(3)
	if one.To != 1 || two.To != 1 || three.To != 1 || !slices.Equal(one.Data, three.Data) || slices.Equal(one.Data, two.Data) {
		x.fail("the copies are others")
	}
	one.Data[40] ^= 128
	if !slices.Equal(one.Data, two.Data) {
		x.fail("the flip was another one")
	}
	x.says("run 1", "dropped 1 214; delivered 1 7 040a0000010a0100016869; dropped 1 213")
	// Flipped twice it is what it was.
	x.says("send 0 "+there, "sent 0 7 4")
	x.says("flip 4 0 255", "done 0")
	x.says("flip 4 0 255", "done 0")
	x.says("give 4", "delivered 1 7 040a0000010a0100016869")
	x.says("send 0 "+there, "sent 0 7 5")
	for at := range x.flight(5).Data {
		x.does(api.Op{Kind: api.OpFlip, K: 5, At: at, X: 1 + at%255}, "done 0")
	}
	x.says("give 5", "dropped 1 210")
}

// P23.3: a packet is given at any time, in any order; each but once.
func TestAnyOrder(t *testing.T) {
	t.Parallel()
	for _, order := range [][]int{{1, 2, 3, 4}, {4, 3, 2, 1}, {3, 1, 4, 2}, {2, 4, 1, 3}} {
		x := laid(t, 64)
		for i := range 4 {
			x.does(sendOf(0, pay("10.0.0.1", "10.1.0.1", fmt.Sprint(i+1))), fmt.Sprintf("sent 0 7 %d", i+1))
		}
		for _, no := range order {
			x.does(give(no), fmt.Sprintf("delivered 1 7 %x", pay("10.0.0.1", "10.1.0.1", fmt.Sprint(no))))
			x.wantRefused(give(no), 0, errNoFlight)
		}
	}
}
