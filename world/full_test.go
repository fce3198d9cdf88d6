package world_test

import (
	"fmt"
	"testing"

	"culvert/api"
)

// filled is a tunnel with so many packets under way to node 0, of one byte each.
func filled(t *testing.T, many int) *trial {
	t.Helper()
	x := laid(t, 64)
	for no := 1; no <= many; no++ {
		x.does(junk(0, []byte{byte(no)}), fmt.Sprintf("sent -1 0 %d", no))
	}
	return x
}

// P23.4, MaxUnder: with 1024 packets under way each one more is lost, whatever has sent it: K is 0, and no number is used; the node has sent it all the same.
func TestFull(t *testing.T) {
	t.Parallel()
	for a := range 2 {
		x := filled(t, maxUnder)
		x.all(fmt.Sprintf("tick %d 5.000000000", a))
		under := x.w.Under()
		for range 2 {
			x.does(sendOf(a, pay("9.9.9.9", fmt.Sprintf("10.%d.0.1", 1-a), "x")), fmt.Sprintf("sent %d 7 0", a))
			x.says(fmt.Sprintf("rekey %d 7", a), fmt.Sprintf("sent %d 7 0", a))
			x.does(junk(a, []byte{1}), "sent -1 0 0")
			x.does(junk(a, nil), "sent -1 0 0")
			x.says("copy 1024", "sent -1 0 0")
			x.says("copy 1", "sent -1 0 0")
		}
		if got := x.w.Under(); len(got) != maxUnder || !sameFlight(got[0], under[0]) || !sameFlight(got[1023], under[1023]) {
			x.fail("what was lost is under way")
		}
		x.does(junk(a, make([]byte, maxJunk+1)), fmt.Sprintf("refused %d 2", a))
		x.does(api.Op{Kind: api.OpCopy, K: 1025}, "refused 0 218")
		// Drop and give make room for one each.
		x.says("drop 7", "done 0")
		x.does(sendOf(a, pay("9.9.9.9", fmt.Sprintf("10.%d.0.1", 1-a), "x")), fmt.Sprintf("sent %d 7 1025", a))
		if h, _ := readHead(x.flight(1025).Data); h.Counter != 2 {
			x.fail("the packets that were lost have not used their counters: %+v", h)
		}
		x.says("copy 1025", "sent -1 0 0")
		x.says("give 9", "dropped 0 210")
		x.says("copy 1025", "sent -1 0 1026")
		x.says("copy 1025", "sent -1 0 0")
		x.says("drop 1026", "done 0")
		x.says(fmt.Sprintf("rekey %d 7", a), fmt.Sprintf("sent %d 7 1027", a))
		if h, _ := readHead(x.flight(1027).Data); h.Gen != 4 {
			x.fail("the inits that were lost have not used their generations: %+v", h)
		}
		x.says("drop 1", "done 0")
		x.does(junk(a, []byte{1}), "sent -1 0 1028")
	}
}

// P23.5: an answer finds room where its init was: with 1024 under way it is sent; and the next packet is lost as before.
func TestAnswerWhereItIsFull(t *testing.T) {
	t.Parallel()
	for _, run := range []bool{false, true} {
		x := filled(t, 1022)
		x.lines("tick 1 5.000000000; rekey 1 7; copy 1023")
		x.says("copy 1", "sent -1 0 0")
		if run {
			l := x.step(api.Op{Kind: api.OpRun, K: 1})
			if len(l) != maxUnder || linesOf(l[1022:]) != "sent 0 7 1025; dropped 0 212" {
				x.fail("%d events: %s", len(l), linesOf(l[1020:]))
			}
			x.wantNumbers(1025)
			continue
		}
		x.says("give 1023", "sent 0 7 1025")
		x.says("copy 1", "sent -1 0 0")
		x.says("give 1025", "opened 1 7")
		x.says("give 1024", "dropped 0 212")
		x.says("copy 1", "sent -1 0 1026")
	}
}

// P23.3, MaxUnder: a run of all 1024 makes room for as many.
func TestRunWhereItIsFull(t *testing.T) {
	t.Parallel()
	x := filled(t, maxUnder)
	l := x.step(api.Op{Kind: api.OpRun, K: 1})
	if len(l) != maxUnder {
		x.fail("%d events", len(l))
	}
	for _, e := range l {
		if plainShow(e) != "dropped 0 210" {
			x.fail("%s", plainShow(e))
		}
	}
	x.wantNumbers()
	for no := maxUnder + 1; no <= 2*maxUnder; no++ {
		x.does(junk(1, nil), fmt.Sprintf("sent -1 0 %d", no))
	}
	x.does(junk(1, nil), "sent -1 0 0")
}
