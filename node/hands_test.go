package node_test

import (
	"errors"
	"fmt"
	"slices"
	"sync"
	"testing"

	"culvert/api"
	"culvert/disk"
	"culvert/node"
)

// hands does something by many hands at one time, each with its number, and waits for all of them.
func hands(many int, do func(hand int)) {
	var all sync.WaitGroup
	for hand := range many {
		all.Go(func() { do(hand) })
	}
	all.Wait()
}

func booted(t *testing.T, d *disk.Disk, p api.Params, l ...api.Change) *node.Node {
	t.Helper()
	n, e := node.Boot(d, p)
	wantErr(t, "Boot", e, api.OK)
	if len(l) > 0 {
		wantErr(t, "Commit", n.Commit(l), api.OK)
	}
	return n
}

// gathered are things that many hands lay down.
type gathered[T any] struct {
	lock sync.Mutex
	all  []T
}

func (g *gathered[T]) lay(x T) {
	g.lock.Lock()
	defer g.lock.Unlock()
	g.all = append(g.all, x)
}

// P20.8: many hands send to three peers at one time: of each peer just the counters from 0 on, each once.
func TestHandsSend(t *testing.T) {
	t.Parallel()
	n := booted(t, formatted(t, 64), params(3, 64), add(1, key(1), 0), allow(1, "10.1.0.0/16"), add(2, key(2), 1), allow(2, "10.2.0.0/16"), add(3, key(3), 0), allow(3, "10.3.0.0/16"))
	var heads gathered[api.Head]
	hands(12, func(hand int) {
		for i := range 20 {
			want := 1 + (hand+i)%3
			link, b, e := n.Send(pay("9.9.9.9", fmt.Sprintf("10.%d.0.1", want), "x"))
			h, ok := readHead(b)
			if e != api.OK || link != want || !ok || h.Link != want {
				t.Errorf("Send = %d, %+v, %d", link, h, e)
			}
			heads.lay(h)
		}
	})
	slices.SortFunc(heads.all, func(a, b api.Head) int { return 1000*(a.Link-b.Link) + int(a.Counter) - int(b.Counter) })
	for i, h := range heads.all {
		if h != headOf(pkData, 1+i/80, 1, uint64(i%80)) {
			t.Fatalf("the packet %d has the head %+v", i, h)
		}
	}
	for link := 1; link <= 3; link++ {
		if v, ok := n.View(link); !ok || v.At != 80 {
			t.Fatalf("View(%d) = %+v", link, v)
		}
	}
}

// P20.8: many hands give one node the same packets at one time: each is delivered once.
func TestHandsTake(t *testing.T) {
	t.Parallel()
	n := booted(t, formatted(t, 64), params(3, 128), add(7, key(1), 0), allow(7, "10.7.0.0/16"))
	var packets [][]byte
	for i := range 60 {
		packets = append(packets, sealed(key(1), 1, headOf(pkData, 7, 1, uint64(i)), pay("10.7.0.1", "1.1.1.1", fmt.Sprint(i))))
	}
	var came gathered[string]
	hands(8, func(hand int) {
		for i := range packets {
			x, e := n.Take(packets[(i+hand)%len(packets)])
			switch {
			case e != api.OK:
				t.Errorf("Take = %d", e)
			case x.Kind == api.TkDelivered:
				came.lay(string(x.Data))
			case x.Code != api.DropReplay:
				t.Errorf("Take = %+v", x)
			}
		}
	})
	slices.Sort(came.all)
	if len(came.all) != 60 || len(slices.Compact(came.all)) != 60 {
		t.Fatalf("%d are delivered: %q", len(came.all), came.all)
	}
}

// P20.8: many hands commit at one time: of those that can't both be done one is done, and each as a whole; many look meanwhile, and see each commit whole or not at all.
func TestHandsCommit(t *testing.T) {
	t.Parallel()
	n := booted(t, formatted(t, 200), params(3, 64), add(1, key(1), 0), allow(1, "10.1.0.0/16"))
	var done gathered[int]
	hands(12, func(hand int) {
		for i := range 12 {
			link := 2 + i
			if hand%3 == 2 { // it looks
				peers, lanes := n.Peers(), n.Lanes() // in this order: of lanes there may be more by now
				for _, p := range peers {
					if len(p.Prefixes) != 1 {
						t.Errorf("a half commit is seen: %+v", p)
					}
				}
				if len(lanes) < len(peers) || n.Boots() != 1 || n.Down() || n.Why() != nil {
					t.Error("something else is told")
				}
				continue
			}
			switch e := n.Commit([]api.Change{add(link, key(link), hand%2), allow(link, fmt.Sprintf("10.%d.0.0/16", link))}); e {
			case api.OK:
				done.lay(link)
			case api.ErrLinkTwice:
			default:
				t.Errorf("Commit = %d", e)
			}
		}
	})
	slices.Sort(done.all)
	if !slices.Equal(done.all, []int{2, 3, 4, 5, 6, 7, 8, 9, 10, 11, 12, 13}) {
		t.Fatalf("added: %v", done.all)
	}
	if len(n.Peers()) != 13 || len(n.Lanes()) != 13 {
		t.Fatalf("%d peers, %d lanes", len(n.Peers()), len(n.Lanes()))
	}
}

// P20.8: many hands rekey and tick at one time: no generation is proposed twice, and the stamps of one peer rise with them.
func TestHandsRekey(t *testing.T) {
	t.Parallel()
	n := booted(t, formatted(t, 64), params(3, 64), add(7, key(1), 0), add(8, key(2), 1))
	var inits gathered[[]byte]
	hands(9, func(hand int) {
		for i := range 10 {
			if hand == 8 {
				if e := n.Tick(stampOf(i, 0)); e != api.OK {
					t.Errorf("Tick = %d", e)
				}
				continue
			}
			b, e := n.Rekey(7 + hand%2)
			if e != api.OK {
				t.Errorf("Rekey = %d", e)
			}
			inits.lay(b)
		}
	})
	for link := 7; link <= 8; link++ {
		stamps := map[int]api.Stamp{}
		for _, b := range inits.all {
			h, _ := readHead(b)
			if h.Link != link {
				continue
			}
			text, ok := opened(key(link-6), link-7, b)
			if _, twice := stamps[h.Gen]; twice || !ok || h.Type != pkInit || h.Counter != 0 {
				t.Fatalf("%+v is answered again, or is no init", h)
			}
			stamps[h.Gen] = readStamp(text)
		}
		for gen := 2; gen <= 41; gen++ {
			if s, ok := stamps[gen]; !ok || gen > 2 && !less(stamps[gen-1], s) {
				t.Fatalf("the generation %d has the stamp %v behind %v", gen, s, stamps[gen-1])
			}
		}
	}
}

// Stopped, P20.8: many hands at a node whose device refuses an operation: just one of them meets that, and all behind it are told that the node is stopped.
func TestHandsStopped(t *testing.T) {
	t.Parallel()
	for k := 1; k <= 8; k++ {
		d := formatted(t, 64)
		n := booted(t, d, params(1, 64), add(7, key(1), 0), allow(7, "10.7.0.0/16"))
		arm(t, d, fault(k, io))
		var errs gathered[api.Errno]
		hands(8, func(hand int) {
			for range 6 {
				var e api.Errno
				switch hand % 4 {
				case 0:
					_, e = n.Rekey(7)
				case 1:
					e = n.Commit([]api.Change{setKey(7, key(1), 0)})
				default:
					_, _, e = n.Send(pay("9.9.9.9", "10.7.0.1", "x"))
				}
				errs.lay(e)
				if n.Down() && n.Why() == nil || n.Why() != nil && !n.Down() {
					t.Error("Down and Why differ")
				}
			}
		})
		count := map[api.Errno]int{}
		for _, e := range errs.all {
			count[e]++
		}
		if count[api.ErrDevice] != 1 || count[api.OK] != (k-1)/2 || count[api.OK]+count[api.ErrDevice]+count[api.ErrDown] != 48 || d.Done() != k {
			t.Fatalf("refused at %d: %v, %d operations", k, count, d.Done())
		}
		if !n.Down() || !errors.Is(n.Why(), api.ErrIO) {
			t.Fatalf("Down() = %v, Why() = %v", n.Down(), n.Why())
		}
	}
}

// wire is all packets that nodes have made, and what has come of them, by their generations and counters.
type wire struct {
	made      gathered[[]byte]
	used      [2]gathered[string] // by the side that made them
	delivered [2]gathered[string] // by the side that took them
}

func (w *wire) send(side int, b []byte) {
	if len(b) > 0 {
		w.used[side].lay(string(b[8:20]))
		w.made.lay(b)
	}
}

func (w *wire) all() [][]byte {
	w.made.lock.Lock()
	defer w.made.lock.Unlock()
	return slices.Clone(w.made.all)
}

// give gives a packet to the node of a side.
func (w *wire) give(t *testing.T, n *node.Node, side int, b []byte) {
	x, e := n.Take(b)
	if e != api.OK {
		t.Errorf("Take = %d", e)
	}
	switch x.Kind {
	case api.TkDelivered:
		w.delivered[side].lay(string(b[8:20]))
	case api.TkAnswered:
		w.send(side, x.Data)
	}
}

// wantOnce: no nonce was used twice, nothing was delivered twice.
func (w *wire) wantOnce(t *testing.T) {
	t.Helper()
	for side := range 2 {
		for what, l := range map[string][]string{"is answered": w.used[side].all, "is delivered": w.delivered[side].all} {
			if slices.Sort(l); len(slices.Compact(slices.Clone(l))) != len(l) {
				t.Fatalf("side %d: something %s twice", side, what)
			}
		}
	}
}

// anything does one of many things at the node of a side; most is how many of them may be meant.
func (w *wire) anything(t *testing.T, s sampler, n *node.Node, side, most int) {
	switch s.IntN(most) {
	case 0, 1:
		_, b, e := n.Send(pay("10.7.0.1", "10.7.0.2", "x"))
		if e != api.OK {
			t.Errorf("Send = %d", e)
		}
		w.send(side, b)
	case 2:
		n.Tick(stampOf(s.IntN(9), s.IntN(9)))
	case 3:
		n.Commit([]api.Change{allow(7, "12.0.0.0/8"), deny(7, "12.0.0.0/8")})
		tellOf(n, []int{7}, &ledger{})
	case 4, 5:
		if all := w.all(); len(all) > 0 {
			w.give(t, n, side, pick(s, all[max(0, len(all)-30):]...))
		}
	default:
		b, e := n.Rekey(7)
		if e != api.OK {
			t.Errorf("Rekey = %d", e)
		}
		w.send(side, b)
	}
}

// P20.8: many hands do all that can be done, at one time, at two nodes over unlike devices; what was answered keeps P20.9 and P20.10. As long as no generation is opened all that was sent is delivered once, however often it was given.
func TestHandsAll(t *testing.T) {
	t.Parallel()
	var nodes []*node.Node
	for side := range 2 {
		nodes = append(nodes, booted(t, formatted(t, 64), params(2, 1024), add(7, key(1), side), allow(7, "10.7.0.0/16")))
	}
	var w wire
	work := func(most int) {
		hands(10, func(hand int) {
			s := newSampler(uint64(7000 + hand))
			for range 40 {
				w.anything(t, s, nodes[hand%2], hand%2, most)
			}
		})
	}
	work(6)
	for _, b := range w.all() {
		w.give(t, nodes[0], 0, b)
		w.give(t, nodes[1], 1, b)
	}
	w.wantOnce(t)
	for side := range 2 {
		if got, want := w.delivered[side].all, w.used[1-side].all; len(want) < 20 || !slices.Equal(got, want) {
			t.Fatalf("side %d: %d are delivered, want %d", side, len(got), len(want))
		}
	}
	work(8)
	w.wantOnce(t)
}
