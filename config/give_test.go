package config_test

import (
	"fmt"
	"testing"

	"culvert/api"
)

// given are all changes that give the key 1 with a side, each with a configuration ahead of it whose lane of the key is this one (none, if Cur is 0), and the peer behind it.
func given(l api.Lane, side int, call func(what string, was conf, c api.Change, peers []api.Peer)) {
	other := lane(key(9), 0, 7, 7)
	lanes := []api.Lane{other}
	if l.Cur != 0 {
		lanes = []api.Lane{l, other}
	}
	own := pres("10.0.0.0/8")
	call("added", conf{nil, lanes}, add(5, key(1), side), []api.Peer{peer(5, key(1))})
	call("set", conf{[]api.Peer{peer(5, key(9), own...)}, lanes}, setKey(5, key(1), side), []api.Peer{peer(5, key(1), own...)})
	if l.Cur != 0 {
		call("set, the key that it has", conf{[]api.Peer{peer(5, key(1), own...)}, lanes}, setKey(5, key(1), side), []api.Peer{peer(5, key(1), own...)})
	}
}

// P16.2: a key without a lane gets one of the side, the generation 1 and nothing else.
func TestGivenWithoutLane(t *testing.T) {
	for side := range 2 {
		given(api.Lane{}, side, func(what string, was conf, c api.Change, peers []api.Peer) {
			want := conf{peers, []api.Lane{{Key: key(1), Side: side, Cur: 1}, lane(key(9), 0, 7, 7)}}
			wantDone(t, fmt.Sprint(what, ", the side ", side), was, want, c)
		})
	}
}

// P16.2: a key with a lane gets the generation behind the greater of Cur and Next; SendCur and Ceil are 0, all else stays.
func TestGivenWithLane(t *testing.T) {
	cases := []struct{ cur, next, want int }{
		{1, 0, 2}, {1, 1, 2}, {1, 2, 3}, {2, 1, 3}, {5, 2, 6}, {2, 5, 6}, {5, 5, 6}, {255, 0, 256}, {1, 65535, 65536}, {1 << 30, 1, 1<<30 + 1}, {1, 1 << 30, 1<<30 + 1},
		{maxGen - 1, 0, maxGen}, {1, maxGen - 1, maxGen}, {maxGen - 1, maxGen - 1, maxGen}, {maxGen - 2, maxGen - 1, maxGen}, {maxGen - 1, 1, maxGen},
	}
	for _, c := range cases {
		for side := range 2 {
			was := lane(key(1), side, c.cur, c.next)
			given(was, side, func(what string, before conf, change api.Change, peers []api.Peer) {
				now := api.Lane{Key: key(1), Side: side, Cur: c.want, Next: c.next, Seen: was.Seen}
				wantDone(t, fmt.Sprint(what, ", Cur ", c.cur, ", Next ", c.next), before, conf{peers, []api.Lane{now, lane(key(9), 0, 7, 7)}}, change)
			})
		}
	}
}

// P16.2: what else stands in the lane stays, at its bounds too, and is not looked at: SendCur and Ceil alone become 0.
func TestGivenOtherFields(t *testing.T) {
	top := ^uint64(0)
	for _, seen := range []api.Stamp{{}, {Sec: 1}, {Nano: 1}, {Sec: 1<<63 - 1, Nano: 999999999}, {Sec: -1, Nano: -1}, {Nano: 1000000000}} {
		for _, sendCur := range []uint64{0, 1, top} {
			for _, ceil := range []uint64{0, 1, top} {
				l := api.Lane{Key: key(1), Side: 1, Cur: 3, Next: 4, SendCur: sendCur, Ceil: ceil, Seen: seen}
				given(l, 1, func(what string, was conf, c api.Change, peers []api.Peer) {
					now := api.Lane{Key: key(1), Side: 1, Cur: 5, Next: 4, Seen: seen}
					wantDone(t, fmt.Sprint(what, ": ", l), was, conf{peers, []api.Lane{now, lane(key(9), 0, 7, 7)}}, c)
				})
			}
		}
	}
}

// P16.2: no generation is left where one of the two is the last.
func TestGivenNoGeneration(t *testing.T) {
	for _, c := range []struct{ cur, next int }{{maxGen, 0}, {maxGen, 1}, {maxGen, maxGen - 1}, {1, maxGen}, {maxGen - 1, maxGen}, {maxGen, maxGen}} {
		for side := range 2 {
			given(lane(key(1), side, c.cur, c.next), side, func(what string, was conf, change api.Change, _ []api.Peer) {
				wantFault(t, fmt.Sprint(what, ", Cur ", c.cur, ", Next ", c.next), was, 0, api.ErrGen, change)
			})
			given(lane(key(1), side, c.cur, c.next), 1-side, func(what string, was conf, change api.Change, _ []api.Peer) {
				wantFault(t, fmt.Sprint(what, ", turned, Cur ", c.cur, ", Next ", c.next), was, 0, api.ErrTurned, change)
			})
		}
	}
}

// P16.2: a lane of the other side is not given, whatever its numbers are.
func TestGivenTurned(t *testing.T) {
	for side := range 2 {
		given(lane(key(1), side, 3, 4), 1-side, func(what string, was conf, c api.Change, _ []api.Peer) {
			wantFault(t, fmt.Sprint(what, ", the side ", 1-side), was, 0, api.ErrTurned, c)
		})
	}
	wantFault(t, "a lane of the same list", conf{}, 2, api.ErrTurned, add(5, key(1), 0), remove(5), add(6, key(1), 1))
}

// P16.2: a key that is given several times in one list rises each time, also one that had no lane ahead of the list, up to the last generation.
func TestGivenTwice(t *testing.T) {
	fresh := func(cur int) conf {
		return conf{[]api.Peer{peer(5, key(1))}, []api.Lane{{Key: key(1), Side: 1, Cur: cur}}}
	}
	l := []api.Change{add(5, key(1), 1)}
	for n := 1; n <= 32; n++ {
		wantDone(t, fmt.Sprint("given times: ", n), conf{}, fresh(n), l...)
		l = append(l, setKey(5, key(1), 1))
	}
	l = nil
	for n := 1; n <= 16; n++ {
		l = append(l, add(5, key(1), 1))
		wantDone(t, fmt.Sprint("added times: ", n), conf{}, fresh(n), l...)
		l = append(l, remove(5))
	}
	// The first time Next is the greater, from then on Cur.
	was := conf{lanes: []api.Lane{lane(key(1), 1, 3, 10)}}
	want := conf{[]api.Peer{peer(5, key(1))}, []api.Lane{{Key: key(1), Side: 1, Cur: 13, Next: 10, Seen: was.lanes[0].Seen}}}
	wantDone(t, "three times", was, want, add(5, key(1), 1), setKey(5, key(1), 1), setKey(5, key(1), 1))

	was = conf{[]api.Peer{peer(5, key(1))}, []api.Lane{lane(key(1), 1, maxGen-2, 0)}}
	last := conf{was.peers, []api.Lane{{Key: key(1), Side: 1, Cur: maxGen, Seen: was.lanes[0].Seen}}}
	wantDone(t, "two left, both taken", was, last, setKey(5, key(1), 1), setKey(5, key(1), 1))
	wantFault(t, "two left, three asked for", was, 2, api.ErrGen, setKey(5, key(1), 1), setKey(5, key(1), 1), setKey(5, key(1), 1))
	wantFault(t, "none left, another link", was, 3, api.ErrGen, setKey(5, key(1), 1), setKey(5, key(1), 1), remove(5), add(6, key(1), 1))
	done(t, was, setKey(5, key(1), 1), setKey(5, key(1), 1), setKey(5, key(2), 1))
}

// P16.2: a key that is not given is left as it is, whatever is done to its peer.
func TestNotGiven(t *testing.T) {
	was := small()
	for _, l := range [][]api.Change{{remove(3)}, {allow(3, pre("11.0.0.0/8"))}, {deny(3, pre("10.0.0.0/8"))}, {remove(maxLink), remove(7)}, {setKey(3, key(50), 0), remove(3)}} {
		got := done(t, was, l...)
		for i, one := range was.lanes {
			if !sameLane(got.lanes[i], one) {
				t.Errorf("%s: the lane %d is %v, was %v", toldChanges(l), i, got.lanes[i], one)
			}
		}
	}
}
