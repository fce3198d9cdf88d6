package net_test

import (
	"bytes"
	"testing"

	"culvert/api"
	"culvert/net"
)

// watch holds a net to P21.8 alone, and knows nothing else of what it must answer: not what is refused, nor when a packet is lost.
type watch struct {
	n       *net.Net
	given   int
	left    map[int]api.Flight // given, and not taken or dropped: where it was sent to, and its bytes with the flips that were done to it
	gone    map[int]int        // how often a number was taken or dropped
	lost    int
	refused int
}

func newWatch(t *testing.T) *watch {
	t.Helper()
	return &watch{n: newNet(t), left: map[int]api.Flight{}, gone: map[int]int{}}
}

// begins: numbers rise by one at what is not lost.
func (w *watch) begins(t *testing.T, no, to int, data []byte) {
	if no == 0 {
		w.lost++
		return
	}
	w.given++
	if no != w.given {
		t.Helper()
		t.Fatalf("the number %d is given behind %d", no, w.given-1)
	}
	w.left[no] = flight(no, to, bytes.Clone(data))
}

// ends: each number once at the most.
func (w *watch) ends(t *testing.T, no int) {
	if w.gone[no]++; w.gone[no] > 1 || no < 1 || no > w.given {
		t.Helper()
		t.Fatalf("the flight %d is taken or dropped for the time %d; %d were given", no, w.gone[no], w.given)
	}
	delete(w.left, no)
}

func (w *watch) do(t *testing.T, c call) {
	got := ofNet(w.n, c)
	if got.e != api.OK {
		w.refused++
		return
	}
	switch c.what {
	case "Send":
		w.begins(t, got.no, c.to, c.data)
	case "Copy":
		f, ok := w.left[c.no]
		if !ok {
			t.Fatalf("%v = %v: it is not under way", c, got)
		}
		w.begins(t, got.no, f.To, f.Data)
	case "Flip":
		f, ok := w.left[c.no]
		if !ok || c.at < 0 || c.at >= len(f.Data) {
			t.Fatalf("%v = %v: there is no such byte", c, got)
		}
		f.Data[c.at] ^= byte(c.x)
	case "Take":
		if want := w.left[c.no]; !same(got.f, want) {
			t.Fatalf("%v = %v, want %s", c, got, briefFlight(want))
		}
		w.ends(t, c.no)
	case "Drop":
		w.ends(t, c.no)
	}
	if under := w.n.Under(); len(under) != w.given-len(w.gone) || len(under) != len(w.left) {
		t.Fatalf("behind %v %d are under way; %d were given, %d are gone", c, len(under), w.given, len(w.gone))
	}
}

// all is taken in the end: each flight that was given and is not gone, and nothing else.
func (w *watch) all(t *testing.T) {
	t.Helper()
	for no := w.given + 2; no >= -1; no-- {
		_, there := w.left[no]
		before := w.refused
		w.do(t, call{what: "Take", no: no})
		if w.refused > before == there {
			t.Fatalf("the flight %d is taken: %v; it was under way: %v", no, !there, there)
		}
	}
	if len(w.left) != 0 || len(w.gone) != w.given || len(w.n.Under()) != 0 {
		t.Fatalf("%d were given, %d are gone, %s", w.given, len(w.gone), briefList(w.n.Under()))
	}
}

// P21.8: nothing from nowhere, in sampled histories of any calls.
func TestNothingFromNowhere(t *testing.T) {
	s := newSampler(9)
	for range 300 {
		w := newWatch(t)
		for range 300 {
			w.do(t, s.call(w.given, 8))
		}
		w.all(t)
	}
}

// P21.8: the same around MaxUnder, with packets and copies that are lost: they take no number.
func TestNothingFromNowhereWhenFull(t *testing.T) {
	s := newSampler(10)
	for range 3 {
		w := newWatch(t)
		for w.lost < 3 {
			w.do(t, call{what: "Send", to: s.IntN(3), data: s.bytes(5)})
		}
		for range 1500 {
			w.do(t, s.call(w.given, 5))
		}
		if w.lost < 50 {
			t.Errorf("only %d were lost", w.lost)
		}
		w.all(t)
	}
}

// P21.8: one flight's whole life, as a history of any flips with copies between: each copy has just the flips that came ahead of it and its own, each of them alone.
func TestFlipsOfCopies(t *testing.T) {
	s := newSampler(11)
	for range 200 {
		w := newWatch(t)
		w.do(t, call{what: "Send", to: s.IntN(9) - 4, data: append(s.bytes(20), 1)})
		for range 120 {
			no := 1 + s.IntN(w.given)
			if f, ok := w.left[no]; ok && s.IntN(3) > 0 {
				w.do(t, call{what: "Flip", no: no, at: s.IntN(len(f.Data)), x: 1 + s.IntN(255)})
			} else if s.IntN(12) == 0 && len(w.left) > 1 {
				w.do(t, call{what: pick(s, []string{"Take", "Drop"}), no: no})
			} else {
				w.do(t, call{what: "Copy", no: no})
			}
		}
		if w.given < 15 {
			t.Errorf("only %d were given", w.given)
		}
		w.all(t)
	}
}
