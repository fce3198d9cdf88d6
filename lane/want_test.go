package lane_test

import (
	"bytes"
	"fmt"
	"testing"

	"culvert/api"
	"culvert/lane"
)

// do is the call, what it answers put together.
func (c call) do(l api.Lane) answer {
	var a answer
	switch c.kind {
	case "Again":
		a.lane, a.err = lane.Again(l)
	case "Propose":
		a.lane, a.gen, a.err = lane.Propose(l)
	case "Reserve":
		a.lane = lane.Reserve(l, c.counter, c.block)
	case "Raise":
		a.lane = lane.Raise(l, c.counter, c.block)
	case "Answered":
		a.lane, a.counter = lane.Answered(l, c.gen, c.counter, c.stamp, c.block)
	case "Opened":
		a.lane = lane.Opened(l, c.gen, c.counter, c.block)
	}
	return a
}

// Of keys nil and the empty one are the same.
func sameLane(a, b api.Lane) bool {
	return bytes.Equal(a.Key, b.Key) && a.Side == b.Side && a.Cur == b.Cur && a.Next == b.Next && a.SendCur == b.SendCur && a.Ceil == b.Ceil && a.Seen == b.Seen
}

func same(a, b answer) bool {
	return sameLane(a.lane, b.lane) && a.gen == b.gen && a.counter == b.counter && a.err == b.err
}

func told(l api.Lane) string {
	text := fmt.Sprintf("%x", l.Key)
	if len(l.Key) > 4 {
		text = fmt.Sprintf("%x..", l.Key[:4])
	}
	return fmt.Sprintf("{%s(%d) side %d cur %d next %d sendCur %d ceil %d seen %d.%d}", text, len(l.Key), l.Side, l.Cur, l.Next, l.SendCur, l.Ceil, l.Seen.Sec, l.Seen.Nano)
}

func (a answer) String() string {
	return fmt.Sprintf("%s, gen %d, counter %d, error %d", told(a.lane), a.gen, a.counter, a.err)
}

// want: the call answers just this.
func want(t *testing.T, what string, l api.Lane, c call, want answer) {
	t.Helper()
	if got := c.do(l); !same(got, want) {
		t.Errorf("%s: %+v of %s = %v, want %v", what, c, told(l), got, want)
	}
}

// wantLane: the call answers just this lane, and no number and no error.
func wantLane(t *testing.T, what string, l api.Lane, c call, is api.Lane) {
	t.Helper()
	want(t, what, l, c, answer{lane: is})
}

// wantRefused: zero values, and the error where the call has one.
func wantRefused(t *testing.T, what string, l api.Lane, c call, e api.Errno) {
	t.Helper()
	if c.kind != "Again" && c.kind != "Propose" {
		e = api.OK
	}
	want(t, what, l, c, answer{err: e})
}

// wantPlain holds a call against its plain form.
func wantPlain(t *testing.T, what string, l api.Lane, c call) {
	t.Helper()
	if got, want := c.do(l), c.plain(l); !same(got, want) {
		t.Fatalf("%s: %+v of %s = %v, want %v", what, c, told(l), got, want)
	}
}

// with is a lane with some fields changed.
func with(l api.Lane, change func(l *api.Lane)) api.Lane {
	change(&l)
	return l
}
