package world_test

import (
	"fmt"
	"strings"
	"testing"

	"culvert/api"
)

// P23.3: how many rounds there may be: 1 to MaxRun; all else is ErrArg, and gives nothing.
func TestRunBounds(t *testing.T) {
	t.Parallel()
	for _, k := range append(oddNodes(), 0, -3, 101, 102, 200, 1000) {
		if k >= 1 && k <= 100 {
			continue
		}
		x := laid(t, 64)
		x.lines("send 0 " + there)
		x.wantRefused(api.Op{Kind: api.OpRun, K: k}, 0, errArg)
		x.wantNumbers(1)
	}
	for _, k := range []int{1, 2, 3, 99, 100} {
		x := laid(t, 64)
		x.says(fmt.Sprintf("run %d", k), "")
		x.lines("send 0 " + there)
		x.says(fmt.Sprintf("run %d", k), "delivered 1 7 040a0000010a0100016869")
		x.says(fmt.Sprintf("run %d", k), "")
	}
}

// P23.3: a round gives what is under way at its beginning, by number; what comes meanwhile comes in the next one.
func TestRunRounds(t *testing.T) {
	t.Parallel()
	for _, rounds := range [][]int{{1, 1, 1, 1}, {2, 1, 1}, {1, 2, 1}, {3, 1}, {4}, {100}, {1, 100}} {
		x := laid(t, 64)
		x.lines("tick 0 5.000000000; send 1 " + back + "; rekey 0 7; junk 0 00; send 0 " + there)
		want := []string{
			"delivered 0 7 040a0100010a0000016f6b; sent 1 7 5; dropped 0 210; delivered 1 7 040a0000010a0100016869",
			"opened 0 7",
		}
		left := 0
		for _, k := range rounds {
			var lines []string
			for range k {
				if left < len(want) {
					lines = append(lines, want[left])
				}
				left++
			}
			x.says(fmt.Sprintf("run %d", k), strings.Join(lines, "; "))
			if left == 1 {
				x.wantNumbers(5)
			}
		}
		x.wantNumbers()
	}
}

// P23.3: the numbers' order is that of the numbers, not that of texts or of maps: many at once, in worlds in which many are gone.
func TestRunOrder(t *testing.T) {
	t.Parallel()
	for range 3 {
		x := laid(t, 64)
		var want []string
		for no := 1; no <= 1000; no++ {
			body := fmt.Sprint("p", no)
			x.does(sendOf(no%2, pay(fmt.Sprintf("10.%d.0.1", no%2), fmt.Sprintf("10.%d.0.1", 1-no%2), body)), fmt.Sprintf("sent %d 7 %d", no%2, no))
			if no%7 != 0 {
				want = append(want, fmt.Sprintf("delivered %d 7 %x", 1-no%2, pay(fmt.Sprintf("10.%d.0.1", no%2), fmt.Sprintf("10.%d.0.1", 1-no%2), body)))
			}
		}
		for no := 7; no <= 1000; no += 7 {
			x.does(api.Op{Kind: api.OpDrop, K: no}, "done 0")
		}
		x.does(api.Op{Kind: api.OpRun, K: 1}, strings.Join(want, "; "))
	}
}

// P23.3: a node that is stopped in the midst of a run: it refuses one packet, and those behind are lost.
func TestRunIntoARefusal(t *testing.T) {
	t.Parallel()
	for k := 1; k <= 2; k++ {
		x := laid(t, 64)
		for range 6 { // the Block is 4: the fifth needs a commit
			x.all("send 0 " + there)
		}
		x.lines("send 1 " + back)
		x.all(fmt.Sprintf("arm 1 io %d", 2+k))
		d := "delivered 1 7 040a0000010a0100016869"
		x.says("run 2", strings.Join([]string{d, d, d, d, "refused 1 201", "lost 1", "delivered 0 7 040a0100010a0000016f6b"}, "; "))
		x.wantNumbers()
		x.says("run 1", "")
	}
}

// P23.3: a run where no node is up loses all; where one is not, what goes to it.
func TestRunToNobody(t *testing.T) {
	t.Parallel()
	x := begin(t, 64)
	for no := 1; no <= 6; no++ {
		x.does(junk(no%2, nil), fmt.Sprintf("sent -1 0 %d", no))
	}
	x.says("run 3", "lost 1; lost 0; lost 1; lost 0; lost 1; lost 0")
	x.lines("boot 1 4 64")
	for no := 7; no <= 10; no++ {
		x.does(junk(no%2, nil), fmt.Sprintf("sent -1 0 %d", no))
	}
	x.says("run 3", "dropped 1 210; lost 0; dropped 1 210; lost 0")
}
