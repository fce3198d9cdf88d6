package audit_test

import (
	"fmt"
	"slices"
	"testing"

	"culvert/api"
	"culvert/disk"
	"culvert/node"
)

// history is two devices that Format has laid stores on, the nodes that have been booted over each since its last crash, the elder ones too, and the packets that they have sent to one another.
type history struct {
	sampler
	d       [2]*disk.Disk
	nodes   [2][]*node.Node
	packets [2][][]byte // to the node
	steps   []string
	tally   map[string]int
}

func newHistory(t *testing.T, seed uint64, sectors int) *history {
	t.Helper()
	h := &history{sampler: newSampler(seed), tally: map[string]int{}}
	for a := range h.d {
		h.d[a] = formatted(t, sectors)
	}
	return h
}

func (h *history) fail(t *testing.T, format string, args ...any) {
	t.Helper()
	t.Fatalf("%s; the last steps: %q", fmt.Sprintf(format, args...), h.steps[max(0, len(h.steps)-20):])
}

func (h *history) did(what string, e api.Errno) {
	h.steps = append(h.steps, fmt.Sprintf("%s = %d", what, int(e)))
	h.tally[fmt.Sprintf("%s %d", what, int(e))]++
}

func (h *history) link() int { return 1 + h.IntN(12) }

// prefixText is a prefix for a link at a node, mostly one behind which the other node sends.
func (h *history) prefixText(a, link int) string {
	own := fmt.Sprintf("10.%d.0.0/16", 2*link+1-a)
	return pick(h.sampler, own, own, fmt.Sprintf("10.%d.%d.0/24", h.IntN(4), h.IntN(20)), fmt.Sprintf("fd00:%x::/32", h.IntN(40)), "::/0")
}

// change is any; the sides of a key are unlike at the two nodes, mostly.
func (h *history) change(a int) api.Change {
	link := h.link()
	side := a
	if h.IntN(20) == 0 {
		side = 1 - a
	}
	switch h.IntN(10) {
	case 0, 1, 2:
		return add(link, key(link), side)
	case 3:
		return remove(link)
	case 4:
		return setKey(link, key(link+20*h.IntN(3)), side)
	case 5:
		return deny(link, h.prefixText(a, link))
	case 6:
		return pick(h.sampler, add(0, key(1), 0), add(link, h.list(31), 0), api.Change{Kind: h.IntN(9), Link: link})
	}
	return allow(link, h.prefixText(a, link))
}

func (h *history) changes(a int) []api.Change {
	var l []api.Change
	for range pick(h.sampler, 0, 1, 1, 1, 2, 3, 8, 33) {
		l = append(l, h.change(a))
	}
	// Many that go through at once: a long transaction.
	if h.IntN(6) == 0 {
		l = nil
		for i := range 1 + h.IntN(12) {
			l = append(l, add(i+1, key(i+1+20*h.IntN(2)), a))
		}
		for i := range h.IntN(10) {
			l = append(l, allow(i%len(l)+1, fmt.Sprintf("fd00:%x::/32", 100+h.IntN(50)*10+i)))
		}
	}
	return l
}

func (h *history) params() api.Params {
	return params(pick(h.sampler, 1, 1, 2, 3, 7, 64, 1<<20-1, 1<<20), pick(h.sampler, 64, 128, 960, 1024))
}

// payload is one for a link, mostly, at whose other end its source is known.
func (h *history) payload(a int) []byte {
	link := pick(h.sampler, 1, 2, h.link())
	b := []byte{4, 10, byte(2*link + a), 0, 1, 10, byte(2*link + 1 - a), 0, 2}
	return append(b, h.list(h.IntN(20))...)
}

// begin boots both nodes, with a few peers that match.
func (h *history) begin(t *testing.T) {
	t.Helper()
	for a := range h.d {
		n := boot(t, h.d[a], h.params())
		h.nodes[a] = append(h.nodes[a], n)
		for link := 1; link <= 3; link++ {
			wantErr(t, "Commit", n.Commit([]api.Change{add(link, key(link), a), allow(link, fmt.Sprintf("10.%d.0.0/16", 2*link+1-a))}), api.OK)
		}
	}
}

// node is the youngest node of a device, or now and then an elder one; nil, if there is none.
func (h *history) node(a int) *node.Node {
	l := h.nodes[a]
	if len(l) == 0 {
		return nil
	}
	if h.IntN(10) == 0 {
		return l[h.IntN(len(l))]
	}
	return l[len(l)-1]
}

// sent: a packet that was answered comes to the other node, now or later, as it is or turned.
func (h *history) sent(a int, b []byte) {
	if len(b) == 0 {
		return
	}
	h.packets[1-a] = append(h.packets[1-a], slices.Clone(b))
	if h.IntN(20) == 0 {
		b[h.IntN(len(b))] ^= 1
		h.packets[1-a] = append(h.packets[1-a], b)
	}
}

// boot boots a further node.
func (h *history) boot(a int) {
	p := h.params()
	if h.IntN(10) == 0 {
		p = pick(h.sampler, params(0, 64), params(1, 63), params(1<<20+1, 64), params(8, 1088))
	}
	n, e := node.Boot(h.d[a], p)
	h.did("Boot", e)
	if n != nil {
		h.nodes[a] = append(h.nodes[a], n)
	}
}

func (h *history) crash(a int) {
	keep := make([]bool, h.IntN(len(h.d[a].Pending())+2))
	for i := range keep {
		keep[i] = h.IntN(2) == 0
	}
	h.steps = append(h.steps, fmt.Sprintf("Crash %d of %d", len(keep), len(h.d[a].Pending())))
	h.tally[fmt.Sprintf("Crash with something: %v", len(h.d[a].Pending()) > 0)]++
	h.d[a].Crash(keep)
	h.nodes[a] = nil
}

func (h *history) arm(t *testing.T, a int) {
	if !h.d[a].Power() {
		return
	}
	l := []api.Fault{fault(1+h.IntN(10), 1+h.IntN(2))}
	if h.IntN(2) == 0 {
		l = append(l, fault(11+h.IntN(20), 1+h.IntN(2)))
	}
	h.steps = append(h.steps, fmt.Sprintf("Arm %v", l))
	arm(t, h.d[a], l...)
}

// call is a call of a node.
func (h *history) call(a int, n *node.Node) {
	switch x := h.IntN(20); {
	case x < 5:
		h.did("Commit", n.Commit(h.changes(a)))
	case x < 9:
		_, b, e := n.Send(h.payload(a))
		h.did("Send", e)
		h.sent(a, b)
	case x < 12:
		b, e := n.Rekey(pick(h.sampler, 1, 2, h.link()))
		h.did("Rekey", e)
		h.sent(a, b)
	case x < 13:
		h.did("Tick", n.Tick(api.Stamp{Sec: h.IntN(9), Nano: h.IntN(5)}))
	case len(h.packets[a]) > 0:
		at := max(0, len(h.packets[a])-1-h.IntN(4))
		taken, e := n.Take(h.packets[a][at])
		h.did(fmt.Sprintf("Take kind %d", taken.Kind), e)
		if taken.Kind == api.TkAnswered {
			h.sent(a, taken.Data)
		}
	default:
		_, e := n.Take(h.list(h.IntN(100)))
		h.did("Take", e)
	}
}

// step does something to one of the devices, or with one of the nodes over it; which one.
func (h *history) step(t *testing.T) int {
	t.Helper()
	a := h.IntN(2)
	n := h.node(a)
	switch x := h.IntN(60); {
	case x < 4 || !h.d[a].Power() && x < 30:
		h.crash(a)
	case x < 8:
		h.arm(t, a)
	case n == nil || n.Down() && x < 40 || x < 9:
		h.boot(a)
	default:
		h.call(a, n)
	}
	return a
}

// wantBoot holds P24.5: what a Boot over the lasting bytes finds, and that neither State nor Check changes anything of that.
func wantBoot(t *testing.T, what string, b []byte, p api.Params) {
	t.Helper()
	was := slices.Clone(b)
	s := stateOf(b)
	checkOf(b)
	if !slices.Equal(b, was) {
		t.Fatalf("%s: State or Check has changed the bytes", what)
	}
	n, e := node.Boot(imaged(t, b), p)
	if e != api.OK || s.err != api.OK {
		t.Fatalf("%s: Boot = %d, State = %v", what, e, s)
	}
	got := state{peers: n.Peers(), lanes: n.Lanes(), boots: n.Boots() - 1}
	if !got.same(s) {
		t.Fatalf("%s: State = %v, Boot finds %v", what, s, got)
	}
}

// P24.4, P24.5: behind each step of any histories, of all that the devices of nodes may come to, the lasting bytes are sound, and State is what a Boot over them finds.
func TestHistories(t *testing.T) {
	t.Parallel()
	for part := range 6 {
		t.Run(fmt.Sprint(part), func(t *testing.T) {
			t.Parallel()
			all := map[string]int{}
			for seed := range 14 {
				h := runHistory(t, uint64(100*part+seed))
				for what, n := range h.tally {
					all[what] += n
				}
			}
			for _, what := range []string{
				"Boot 0", "Boot 201", "Boot 202", "Commit 0", "Commit 200", "Commit 201", "Commit 160", "Commit 164", "Send 0", "Send 201", "Rekey 0", "Rekey 201",
				"Tick 0", "Take kind 1 0", "Take kind 2 0", "Take kind 3 0", "Take kind 4 0", "Crash with something: true", "Crash with something: false",
			} {
				if all[what] == 0 {
					t.Errorf("never: %s", what)
				}
			}
		})
	}
}

// runHistory does the steps of a history, and holds the lasting bytes to what they must be behind each.
func runHistory(t *testing.T, seed uint64) *history {
	t.Helper()
	h := newHistory(t, seed, pick(newSampler(seed), 32, 32, 33, 34, 64))
	if seed%3 > 0 {
		h.begin(t)
	}
	for range 150 {
		a := h.step(t)
		b := h.d[a].Durable()
		if got := checkOf(b); !got.same(checked{}) {
			h.fail(t, "Check = %q, %d, the plain form %v", got.lines, got.err, plainCheck(b))
		}
		if h.IntN(10) == 0 {
			what := fmt.Sprintf("%q", h.steps[max(0, len(h.steps)-20):])
			wantSound(t, what, b)
			wantBoot(t, what, b, h.params())
		}
		h.wantSurvivors(t, a)
	}
	return h
}

// wantSurvivors: a crash at this moment, of a twin, leaves bytes that are sound too.
func (h *history) wantSurvivors(t *testing.T, a int) {
	t.Helper()
	pending := h.d[a].Pending()
	if len(pending) == 0 {
		return
	}
	m := imageOf(h.d[a].Durable())
	for _, w := range pending {
		if h.IntN(2) == 0 {
			m[w.Sector] = w.Data
		}
	}
	if got := checkOf(m.bytes()); !got.same(checked{}) {
		h.fail(t, "some of what pends survives: Check = %q", got.lines)
	}
}
