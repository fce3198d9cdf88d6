package world_test

import (
	"fmt"
	"testing"

	"culvert/api"
)

// acts are steps at node a that commit something, with what they answer when nothing is refused; behind the steps ahead of them.
func acts(a int) []struct{ ahead, line, done string } {
	return []struct{ ahead, line, done string }{
		{"", fmt.Sprintf("commit %d allow 7 12.0.0.0/8", a), fmt.Sprintf("done %d", a)},
		{"", fmt.Sprintf("send %d pay:9.9.9.9>10.%d.0.1:x", a, 1-a), fmt.Sprintf("sent %d 7 1", a)},
		{"", fmt.Sprintf("rekey %d 7", a), fmt.Sprintf("sent %d 7 1", a)},
		{fmt.Sprintf("send %d pay:10.%d.0.1>10.%d.0.1:x", 1-a, 1-a, a), "give 1", fmt.Sprintf("delivered %d 7 %x", a, pay(fmt.Sprintf("10.%d.0.1", 1-a), fmt.Sprintf("10.%d.0.1", a), "x"))},
		{fmt.Sprintf("tick %d 5.000000000; rekey %d 7", 1-a, 1-a), "give 1", fmt.Sprintf("sent %d 7 2", a)},
	}
}

// P23.2, P23.3: a step whose device refuses: ErrDevice, the node is not up from then on, what pends pends on; the other node goes on. Each kind that commits, at each of its operations, by a power that fails and by an error.
func TestRefusedByTheDevice(t *testing.T) {
	t.Parallel()
	for a := range 2 {
		for _, act := range acts(a) {
			for _, kind := range []string{"power", "io"} {
				for k := 1; k <= 3; k++ {
					refusedByTheDevice(t, a, act.ahead, act.line, act.done, kind, k)
				}
			}
		}
	}
}

func refusedByTheDevice(t *testing.T, a int, ahead, line, done, kind string, k int) {
	t.Helper()
	x := laid(t, 64)
	if ahead != "" {
		x.lines(ahead)
	}
	x.says(fmt.Sprintf("arm %d %s %d", a, kind, k), fmt.Sprintf("done %d", a))
	before := tellOf(x.w)
	if k == 3 { // there are two
		x.says(line, done)
		return
	}
	x.says(line, fmt.Sprintf("refused %d 201", a))
	behind := tellOf(x.w)
	if string(before.durable[0]) != string(behind.durable[0]) || string(before.durable[1]) != string(behind.durable[1]) {
		x.fail("something lasts")
	}
	x.wantNumbers() // what was to be sent is not, and what was given is no more under way
	want := fmt.Sprintf("node %d 0 %d", a, k)
	if k == 2 { // the write was done, its flush was not
		want += fmt.Sprintf("; pending %d 35", a)
	}
	x.says(fmt.Sprintf("look %d", a), want)
	for _, other := range []string{"commit %d", "send %d -", "rekey %d 0", "tick %d 5.000000000"} {
		x.says(fmt.Sprintf(other, a), fmt.Sprintf("refused %d 200", a))
	}
	x.says(fmt.Sprintf("junk %d 00", a), plainShow(api.Event{Kind: api.EvSent, A: -1, K: x.given() + 1}))
	x.says("run 1", fmt.Sprintf("lost %d", a))
	x.says(fmt.Sprintf("tick %d 5.000000000", 1-a), fmt.Sprintf("done %d", 1-a))
	x.says(fmt.Sprintf("commit %d deny 7 10.%d.0.0/16", 1-a, a), fmt.Sprintf("done %d", 1-a))
	if kind == "io" { // booted again over what pends
		x.says(fmt.Sprintf("boot %d 8 64", a), fmt.Sprintf("up %d 2", a))
		return
	}
	x.says(fmt.Sprintf("arm %d", a), fmt.Sprintf("refused %d 104", a))
	x.says(fmt.Sprintf("boot %d 8 64", a), fmt.Sprintf("refused %d 201", a))
	x.says(fmt.Sprintf("crash %d 1", a), fmt.Sprintf("down %d %d %d", a, k-1, k-1))
	x.says(fmt.Sprintf("boot %d 8 64", a), fmt.Sprintf("up %d 2", a))
}

// P23.3: what a commit was committing when its device refused is there or not, as what pended survives.
func TestCommitInTheMidst(t *testing.T) {
	t.Parallel()
	for _, row := range []struct{ bits, down, peers string }{
		{"-", "down 1 1 0", "peer 1 7 K1 10.0.0.0/16"},
		{"0", "down 1 1 0", "peer 1 7 K1 10.0.0.0/16"},
		{"1", "down 1 1 1", "peer 1 7 K1 10.0.0.0/16 12.0.0.0/16"},
		{"10", "down 1 1 1", "peer 1 7 K1 10.0.0.0/16 12.0.0.0/16"},
		{"0111", "down 1 1 0", "peer 1 7 K1 10.0.0.0/16"},
	} {
		x := laid(t, 64)
		x.says("arm 1 power 2", "done 1")
		x.says("commit 1 allow 7 12.0.0.0/16", "refused 1 201")
		x.says("crash 1 "+row.bits, row.down)
		x.says("look 1", "node 1 0 0")
		x.says("boot 1 8 64", "up 1 2")
		peers := spelt(row.peers)
		x.says("look 1", "node 1 1 "+x.doneAt(1)+"; up 1 2; "+peers[:len(peers)-1]+"; lane 1 "+spelt("K1")[:64]+" 1 1 0 0 0 0.000000000")
	}
}

// P23.3: refusals that follow one another: each boot is met by what its device says, and none is up till one is OK.
func TestBootsRefused(t *testing.T) {
	t.Parallel()
	for a := range 2 {
		for _, kind := range []string{"power", "io"} {
			for k := 1; k <= 8; k++ {
				x := laid(t, 64)
				x.says(fmt.Sprintf("crash %d -", a), fmt.Sprintf("down %d 0 0", a))
				x.says(fmt.Sprintf("arm %d %s %d", a, kind, k), fmt.Sprintf("done %d", a))
				plain := x.plainBehind()
				got := x.step(steps(t, fmt.Sprintf("boot %d 8 64", a))[0])
				want := plain.step(steps(t, fmt.Sprintf("boot %d 8 64", a))[0])
				if !sameEvents(got, want) {
					x.fail("%s, want %s", linesOf(got), linesOf(want))
				}
				if k == 1 && linesOf(got) != fmt.Sprintf("refused %d 201", a) {
					x.fail("%s", linesOf(got))
				}
				if got[0].Kind == api.EvUp {
					continue
				}
				for _, line := range []string{"commit %d", "send %d -", "rekey %d 7", "tick %d 1.000000000"} {
					x.says(fmt.Sprintf(line, a), fmt.Sprintf("refused %d 200", a))
				}
				x.says(fmt.Sprintf("boot %d 0 64", a), fmt.Sprintf("refused %d 202", a)) // not ErrIsUp
				if kind == "power" {
					x.says(fmt.Sprintf("boot %d 8 64", a), fmt.Sprintf("refused %d 201", a))
					x.step(steps(t, fmt.Sprintf("crash %d 1", a))[0])
				}
				up := x.step(steps(t, fmt.Sprintf("boot %d 8 64", a))[0])
				if len(up) != 1 || up[0].Kind != api.EvUp {
					x.fail("%s", linesOf(up))
				}
				x.says(fmt.Sprintf("boot %d 8 64", a), fmt.Sprintf("refused %d 230", a))
			}
		}
	}
}
