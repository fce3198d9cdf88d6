package world_test

import (
	"fmt"
	"testing"

	"culvert/api"
)

// pending is a world of 32 sectors whose node 0 is stopped in the midst of a commit, with so many writes that pend.
func pending(t *testing.T, kind string, writes int) *trial {
	t.Helper()
	x := begin(t, 32)
	x.lines("boot 0 4 64")
	// Three changes with prefixes of the family 6 make a transaction of several sectors.
	big := "commit 0 add 7 K1 0"
	for i := range 16 {
		big += fmt.Sprintf(" , allow 7 fd00:%04x:0000:0000:0000:0000:0000:0000/32", i)
	}
	for link := 8; link < 11; link++ {
		big += fmt.Sprintf(" , add %d K%d 1", link, link)
	}
	x.says(fmt.Sprintf("arm 0 %s %d", kind, writes+1), "done 0")
	x.says(big, "refused 0 201")
	return x
}

// P23.3: a crash in the midst of a commit: K writes pended, M of them survived, which Keep tells by their order; shorter, longer, none.
func TestCrashInTheMidst(t *testing.T) {
	t.Parallel()
	for _, kind := range []string{"power", "io"} {
		for _, row := range []struct {
			writes int
			bits   string
			down   string
		}{
			{0, "-", "down 0 0 0"}, {0, "1", "down 0 0 0"}, {0, "111", "down 0 0 0"},
			{1, "-", "down 0 1 0"}, {1, "0", "down 0 1 0"}, {1, "1", "down 0 1 1"}, {1, "01", "down 0 1 0"}, {1, "11", "down 0 1 1"},
			{2, "-", "down 0 2 0"}, {2, "1", "down 0 2 1"}, {2, "01", "down 0 2 1"}, {2, "11", "down 0 2 2"}, {2, "10", "down 0 2 1"},
			{2, "00", "down 0 2 0"}, {2, "001", "down 0 2 0"}, {2, "111111111111111111111111111111", "down 0 2 2"}, {2, "011111", "down 0 2 1"},
		} {
			x := pending(t, kind, row.writes)
			want := ""
			for i := range row.writes {
				want += fmt.Sprintf("; pending 0 %d", 18+i)
			}
			x.says("look 0", fmt.Sprintf("node 0 0 %d", row.writes+1)+want)
			before := x.w.Durable(0)
			x.says("crash 0 "+row.bits, row.down)
			x.says("look 0", "node 0 0 0")
			for i := range row.writes {
				at := 512 * (18 + i)
				survived := i < len(row.bits) && row.bits[i] == '1'
				if changed := string(before[at:at+512]) != string(x.w.Durable(0)[at:at+512]); changed != survived {
					x.fail("the write %d: %v, want %v", i, changed, survived)
				}
			}
			x.says("boot 0 4 64", "up 0 2")
		}
	}
}

// P23.3: a crash of a node that is up, of one that is not, again and again; the power is on behind it, nothing is armed, nothing is counted, and the node is not up.
func TestCrash(t *testing.T) {
	t.Parallel()
	for a := range 2 {
		says := func(x *trial, line, want string) {
			t.Helper()
			x.says(fmt.Sprintf(line, a), fmt.Sprintf(want, a))
		}
		x := begin(t, 64)
		says(x, "crash %d -", "down %d 0 0")
		says(x, "crash %d 1011", "down %d 0 0")
		says(x, "boot %d 4 64", "up %d 1")
		says(x, "arm %d io 1 power 2", "done %d")
		says(x, "crash %d -", "down %d 0 0")
		says(x, "look %d", "node %d 0 0")
		says(x, "commit %d add 7 K1 0", "refused %d 200")
		says(x, "boot %d 4 64", "up %d 2")
		says(x, "arm %d power 1", "done %d")
		says(x, "commit %d add 7 K1 0", "refused %d 201")
		says(x, "arm %d", "refused %d 104")
		says(x, "crash %d -", "down %d 0 0")
		says(x, "arm %d", "done %d")
		says(x, "boot %d 4 64", "up %d 3")
		says(x, "commit %d add 7 K1 0", "done %d")
		other := x.step(api.Op{Kind: api.OpLook, A: 1 - a})
		if len(other) != 1 || other[0].M != 0 {
			x.fail("the other node: %s", linesOf(other))
		}
	}
}

// P23.3: what is armed counts from the step that arms it, is met once, and is gone behind another arm.
func TestArm(t *testing.T) {
	t.Parallel()
	x := laid(t, 64)
	x.says("arm 1 io 3", "done 1")
	x.says("commit 1 allow 7 12.0.0.0/8", "done 1") // two operations
	x.says("arm 1 io 3", "done 1")                  // counted anew
	x.says("commit 1 deny 7 12.0.0.0/8", "done 1")
	x.says("arm 1", "done 1")
	x.says("commit 1 allow 7 12.0.0.0/8", "done 1")
	x.says("look 0", "node 0 1 8; up 0 1; peer 0 7 "+spelt("K1")[:64]+" 10.1.0.0/16; lane 0 "+spelt("K1")[:64]+" 0 1 0 0 0 0.000000000")
	x.says("arm 1 power 2 io 1", "done 1")
	x.says("commit 1 deny 7 12.0.0.0/8", "refused 1 201")
	x.says("arm 1 io 0", "refused 1 105") // what is armed stays, and is counted on
	x.says("look 1", "node 1 0 1")
	x.says("boot 1 4 64", "refused 1 201")
	x.says("arm 1 io 1", "refused 1 104") // that was the power
	x.says("look 1", "node 1 0 2")
	x.says("crash 1 -", "down 1 0 0")
	x.says("boot 1 4 64", "up 1 2")
}

// P23.3: Params of each life, and ErrIsUp ahead of them; a refused Boot leaves a node that is not up, and one behind it may be done.
func TestBoot(t *testing.T) {
	t.Parallel()
	for a := range 2 {
		x := begin(t, 64)
		boot := func(block, width int) api.Op {
			return api.Op{Kind: api.OpBoot, A: a, Params: api.Params{Block: block, Width: width}}
		}
		for _, p := range []api.Params{{}, {Block: 0, Width: 64}, {Block: 1}, {Block: 1, Width: 63}, {Block: 1, Width: 65}, {Block: 1, Width: 1088}, {Block: 1048577, Width: 64}, {Block: -1, Width: 64}, {Block: 1, Width: -64}} {
			x.wantRefused(boot(p.Block, p.Width), a, api.ErrParams)
		}
		for i, p := range []api.Params{{Block: 1, Width: 64}, {Block: 1048576, Width: 1024}, {Block: 8, Width: 128}} {
			x.does(boot(p.Block, p.Width), fmt.Sprintf("up %d %d", a, i+1))
			x.wantRefused(boot(p.Block, p.Width), a, errIsUp)
			x.wantRefused(boot(0, 0), a, errIsUp)
			x.does(api.Op{Kind: api.OpCrash, A: a}, fmt.Sprintf("down %d 0 0", a))
			x.wantRefused(boot(1, 1), a, api.ErrParams)
		}
		x.does(boot(8, 64), fmt.Sprintf("up %d 4", a))
	}
}

// P23.3: the Params are those of the life: the Block is how many counters are reserved at once.
func TestParamsAreTheLifes(t *testing.T) {
	t.Parallel()
	x := laid(t, 64)
	for _, block := range []int{1, 3, 1000, 1048576} {
		x.lines(fmt.Sprintf("crash 0 -; boot 0 %d 64", block))
		was := x.step(api.Op{Kind: api.OpLook})[3].Lane.SendCur
		x.lines("send 0 " + there)
		l := x.step(api.Op{Kind: api.OpLook})
		if got := l[3].Lane.SendCur; got != was+uint64(block) {
			x.fail("SendCur %d behind %d with the Block %d", got, was, block)
		}
	}
}
