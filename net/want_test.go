package net_test

import (
	"bytes"
	"fmt"
	"testing"

	"culvert/api"
	"culvert/net"
)

func flight(no, to int, data []byte) api.Flight { return api.Flight{No: no, To: to, Data: data} }

// same: nil and the empty list are the same.
func same(a, b api.Flight) bool {
	return a.No == b.No && a.To == b.To && bytes.Equal(a.Data, b.Data)
}

func sameList(a, b []api.Flight) bool {
	if len(a) != len(b) {
		return false
	}
	for i := range a {
		if !same(a[i], b[i]) {
			return false
		}
	}
	return true
}

func brief(b []byte) string {
	if len(b) <= 8 {
		return fmt.Sprintf("%x", b)
	}
	return fmt.Sprintf("%x.. of %d", b[:8], len(b))
}

func briefFlight(f api.Flight) string { return fmt.Sprintf("(%d, %d, %s)", f.No, f.To, brief(f.Data)) }

func briefList(l []api.Flight) string {
	text := fmt.Sprintf("%d flights:", len(l))
	for _, f := range l[:min(len(l), 12)] {
		text += " " + briefFlight(f)
	}
	return text
}

func newNet(t *testing.T) *net.Net {
	t.Helper()
	n := net.New()
	if n == nil {
		t.Fatal("New() = nil")
	}
	return n
}

func wantErr(t *testing.T, what string, got, want api.Errno) {
	if got != want {
		t.Helper()
		t.Fatalf("%s = %d, want %d", what, got, want)
	}
}

func wantSend(t *testing.T, n *net.Net, to int, b []byte, want int) {
	if got := n.Send(to, b); got != want {
		t.Helper()
		t.Fatalf("Send(%d, %s) = %d, want %d", to, brief(b), got, want)
	}
}

func wantTake(t *testing.T, n *net.Net, want api.Flight) {
	if f, e := n.Take(want.No); e != api.OK || !same(f, want) {
		t.Helper()
		t.Fatalf("Take(%d) = %s, %d, want %s", want.No, briefFlight(f), e, briefFlight(want))
	}
}

// wantNone: no call finds a flight of this number, and each answers zero values beside that.
func wantNone(t *testing.T, n *net.Net, no int) {
	t.Helper()
	if f, e := n.Take(no); e != noFlight || !same(f, api.Flight{}) {
		t.Fatalf("Take(%d) = %s, %d, want the zero flight and %d", no, briefFlight(f), e, noFlight)
	}
	wantErr(t, fmt.Sprintf("Drop(%d)", no), n.Drop(no), noFlight)
	wantCopy(t, n, no, 0, noFlight)
	wantFlip(t, n, no, 0, 1, noFlight)
}

func wantDrop(t *testing.T, n *net.Net, no int) {
	t.Helper()
	wantErr(t, fmt.Sprintf("Drop(%d)", no), n.Drop(no), api.OK)
}

func wantCopy(t *testing.T, n *net.Net, no, want int, wantE api.Errno) {
	if got, e := n.Copy(no); got != want || e != wantE {
		t.Helper()
		t.Fatalf("Copy(%d) = %d, %d, want %d, %d", no, got, e, want, wantE)
	}
}

func wantFlip(t *testing.T, n *net.Net, no, at, x int, want api.Errno) {
	if e := n.Flip(no, at, x); e != want {
		t.Helper()
		t.Fatalf("Flip(%d, %d, %d) = %d, want %d", no, at, x, e, want)
	}
}

func wantUnder(t *testing.T, n *net.Net, want ...api.Flight) {
	if got := n.Under(); !sameList(got, want) {
		t.Helper()
		t.Fatalf("Under() = %s, want %s", briefList(got), briefList(want))
	}
}

// filled is a net with so many flights under way, numbered from 1 on, each with bytes of its own, and what lies in it.
func filled(t *testing.T, many int) (*net.Net, []api.Flight) {
	t.Helper()
	n := newNet(t)
	var all []api.Flight
	for i := range many {
		f := flight(i+1, i%5-2, numbered(i, 4+i%40))
		wantSend(t, n, f.To, f.Data, f.No)
		all = append(all, f)
	}
	return n, all
}

// both is a net with its plain form beside it.
type both struct {
	n     *net.Net
	p     plain
	asked []string // the calls, for the one who looks for a fault
	seen  map[string]int
}

func newBoth(t *testing.T) *both {
	t.Helper()
	return &both{n: newNet(t), seen: map[string]int{}}
}

// call is one of a net, with its arguments.
type call struct {
	what      string
	no, at, x int
	to        int
	data      []byte
}

func (c call) String() string {
	switch c.what {
	case "Send":
		return fmt.Sprintf("Send(%d, %s)", c.to, brief(c.data))
	case "Flip":
		return fmt.Sprintf("Flip(%d, %d, %d)", c.no, c.at, c.x)
	case "Under":
		return "Under()"
	}
	return fmt.Sprintf("%s(%d)", c.what, c.no)
}

// answer is what a call may answer; what it does not have is zero.
type answer struct {
	no    int
	e     api.Errno
	f     api.Flight
	under []api.Flight
}

func (a answer) String() string {
	return fmt.Sprintf("%d, error %d, %s, %s", a.no, a.e, briefFlight(a.f), briefList(a.under))
}

func sameAnswer(a, b answer) bool {
	return a.no == b.no && a.e == b.e && same(a.f, b.f) && sameList(a.under, b.under)
}

func ofNet(n *net.Net, c call) (a answer) {
	switch c.what {
	case "Send":
		a.no = n.Send(c.to, c.data)
	case "Take":
		a.f, a.e = n.Take(c.no)
	case "Drop":
		a.e = n.Drop(c.no)
	case "Copy":
		a.no, a.e = n.Copy(c.no)
	case "Flip":
		a.e = n.Flip(c.no, c.at, c.x)
	case "Under":
		a.under = n.Under()
	}
	return a
}

func ofPlain(p *plain, c call) (a answer) {
	switch c.what {
	case "Send":
		a.no = p.send(c.to, c.data)
	case "Take":
		a.f, a.e = p.take(c.no)
	case "Drop":
		a.e = p.drop(c.no)
	case "Copy":
		a.no, a.e = p.copy(c.no)
	case "Flip":
		a.e = p.flip(c.no, c.at, c.x)
	case "Under":
		a.under = p.under()
	}
	return a
}

func (b *both) do(t *testing.T, c call) answer {
	got, want := ofNet(b.n, c), ofPlain(&b.p, c)
	if !sameAnswer(got, want) {
		t.Helper()
		t.Fatalf("%v = %v, want %v; the last calls ahead of it: %v", c, got, want, b.asked[max(0, len(b.asked)-20):])
	}
	b.asked = append(b.asked, c.String())
	b.seen[fmt.Sprintf("%s %d %v", c.what, got.e, got.no > 0)]++
	return got
}

func (b *both) look(t *testing.T) {
	t.Helper()
	b.do(t, call{what: "Under"})
}
