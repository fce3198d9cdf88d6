package net_test

import (
	"bytes"
	"fmt"
	"testing"

	"culvert/api"
)

// P21.2: to is any number, and stays what it was.
func TestSendTo(t *testing.T) {
	n := newNet(t)
	var all []api.Flight
	for i, to := range edgeInts() {
		f := flight(i+1, to, []byte{byte(i)})
		wantSend(t, n, to, f.Data, f.No)
		all = append(all, f)
		wantUnder(t, n, all...)
	}
	for _, f := range all {
		wantTake(t, n, f)
	}
}

// P21.2: the bytes are any, of any length: none, nil, a packet's lengths, and far more.
func TestSendBytes(t *testing.T) {
	n := newNet(t)
	var all []api.Flight
	send := func(b []byte) {
		t.Helper()
		f := flight(len(all)+1, 1, b)
		wantSend(t, n, 1, b, f.No)
		all = append(all, f)
	}
	send(nil)
	send([]byte{})
	for size := range 100 {
		send(numbered(size, size))
	}
	for _, size := range []int{127, 128, 129, 255, 256, 257, 511, 512, 513, 1280, 1315, 1316, 1317, 2047, 2048, 2049, 4096, 65535, 65536, 65537, 1<<20 + 3} {
		send(numbered(size, size))
	}
	for x := range 256 {
		send([]byte{byte(x)})
		send(bytes.Repeat([]byte{byte(x)}, 33))
	}
	wantUnder(t, n, all...)
	for i := range all {
		wantTake(t, n, all[len(all)-1-i])
	}
	wantUnder(t, n)
}

// P21.2: the same packet again and again is one more flight each time.
func TestSendSame(t *testing.T) {
	n := newNet(t)
	b := []byte("same")
	var all []api.Flight
	for no := 1; no <= 50; no++ {
		wantSend(t, n, 1, b, no)
		all = append(all, flight(no, 1, []byte("same")))
	}
	wantUnder(t, n, all...)
	wantDrop(t, n, 20)
	wantUnder(t, n, append(all[:19:19], all[20:]...)...)
}

// P21.2: with MaxUnder - 1 under way there is room for one; with MaxUnder all is lost, changes nothing and takes no number.
func TestFull(t *testing.T) {
	n, all := filled(t, most-1)
	last := flight(most, -9, []byte("the last one"))
	wantSend(t, n, last.To, last.Data, most)
	all = append(all, last)
	for i := range 2000 {
		wantSend(t, n, i%7-3, numbered(i, i%9), 0)
	}
	for _, to := range edgeInts() {
		wantSend(t, n, to, nil, 0)
	}
	wantUnder(t, n, all...)
	for no := most + 1; no < 2*most; no++ {
		wantNone(t, n, no)
	}
	wantNone(t, n, 0)
	wantUnder(t, n, all...)
}

// leave are the ways by which a flight is under way no longer.
func leave() map[string]func(t *testing.T, b *both, no int) {
	return map[string]func(t *testing.T, b *both, no int){
		"Take": func(t *testing.T, b *both, no int) { b.do(t, call{what: "Take", no: no}) },
		"Drop": func(t *testing.T, b *both, no int) { b.do(t, call{what: "Drop", no: no}) },
	}
}

// P21.2, P21.3: where one has left a full net, there is room for just one: it has the next number, however many were lost between.
func TestRoomAgain(t *testing.T) {
	for name, leaves := range leave() {
		for _, lost := range []int{0, 1, 3} {
			t.Run(fmt.Sprint(name, " ", lost), func(t *testing.T) {
				b := newBoth(t)
				send := func(want int) {
					t.Helper()
					if got := b.do(t, call{what: "Send", to: want, data: numbered(want, 5)}).no; got != want {
						t.Fatalf("Send gives the number %d, not %d", got, want)
					}
				}
				for no := 1; no <= most; no++ {
					send(no)
				}
				next := most + 1
				for _, no := range []int{1, most, 512, 2, most - 1, most + 1, 3, most + 2} {
					for range lost {
						send(0)
					}
					leaves(t, b, no)
					send(next)
					send(0)
					next++
				}
				b.look(t)
			})
		}
	}
}

// P21.2: where many have left, there is room for just as many.
func TestMuchRoomAgain(t *testing.T) {
	for _, many := range []int{2, 3, 500, most - 1, most} {
		n, all := filled(t, most)
		for no := 1; no <= many; no++ {
			wantTake(t, n, all[no-1])
		}
		all = all[many:]
		for i := range many {
			f := flight(most+1+i, i, numbered(i, 3))
			wantSend(t, n, f.To, f.Data, f.No)
			all = append(all, f)
		}
		wantSend(t, n, 0, nil, 0)
		wantUnder(t, n, all...)
	}
}

// P21.2, P21.8: numbers go on rising far beyond MaxUnder, one by one, and none is given again.
func TestNumbersRise(t *testing.T) {
	n, all := filled(t, 3)
	for no := 4; no <= 100000; no++ {
		f := flight(no, -no, numbered(no, no%6))
		wantSend(t, n, f.To, f.Data, no)
		all = append(all, f)
		wantTake(t, n, all[0])
		all = all[1:]
		if no%1000 < 3 {
			wantUnder(t, n, all...)
			for _, was := range []int{1, 3, no - 3, no - most, no + 1, no + most} {
				wantNone(t, n, was)
			}
		}
	}
}
