package packet_test

import (
	"bytes"
	"testing"

	"culvert/api"
	"culvert/packet"
)

// room is a list in the middle of a longer one, whose bytes ahead and behind are watched too.
type room struct {
	all, was []byte
	list     []byte
}

func newRoom(list []byte) *room {
	const around = 50
	all := counted(100, 11, around)
	all = append(all, list...)
	all = append(all, counted(200, 13, around)...)
	return &room{all, bytes.Clone(all), all[around : around+len(list)]}
}

// spoil writes over all that a caller may write over, the spare room too.
func spoil(list []byte) {
	list = list[:cap(list)]
	for i := range list {
		list[i] ^= 0xA5
	}
}

// call is a call of the package with the lists that it is given; run answers the one list that it hands out.
type call struct {
	name  string
	lists [][]byte
	run   func(lists [][]byte) []byte
}

// rooms are the call's lists, each in a room of its own.
func (c call) rooms() (rooms []*room, lists [][]byte) {
	for _, list := range c.lists {
		r := newRoom(list)
		rooms, lists = append(rooms, r), append(lists, r.list)
	}
	return rooms, lists
}

func (c call) wantUnchanged(t *testing.T, rooms []*room) {
	t.Helper()
	for i, r := range rooms {
		if !bytes.Equal(r.all, r.was) {
			t.Errorf("%s: its list %d, or what lies around it, has become %s", c.name, i, brief(r.all))
		}
	}
}

func (c call) want(t *testing.T, what string, got, want []byte) {
	t.Helper()
	if !bytes.Equal(got, want) {
		t.Errorf("%s: %s = %s, want %s", c.name, what, brief(got), brief(want))
	}
}

func sealCall(name string, key []byte, side int, p api.Packet) call {
	return call{name, [][]byte{key, p.Text}, func(lists [][]byte) []byte {
		b, _ := packet.Seal(lists[0], side, api.Packet{Head: p.Head, Text: lists[1]})
		return b
	}}
}

func openCall(name string, key []byte, side int, b []byte) call {
	return call{name, [][]byte{key, b}, func(lists [][]byte) []byte {
		p, _ := packet.Open(lists[0], side, lists[1])
		return p.Text
	}}
}

func putPayloadCall(name string, p api.Payload) call {
	return call{name, [][]byte{p.Body}, func(lists [][]byte) []byte {
		b, _ := packet.PutPayload(payload(p.Src, p.Dst, lists[0]))
		return b
	}}
}

func getPayloadCall(name string, b []byte) call {
	return call{name, [][]byte{b}, func(lists [][]byte) []byte {
		p, _ := packet.GetPayload(lists[0])
		return p.Body
	}}
}

func getHeadCall(name string, b []byte) call {
	return call{name, [][]byte{b}, func(lists [][]byte) []byte {
		h, _ := packet.GetHead(lists[0])
		again, _ := packet.PutHead(h)
		return again
	}}
}

func noLists(name string, run func() []byte) call {
	return call{name, nil, func([][]byte) []byte { return run() }}
}

// calls are calls of all kinds, of the least and the greatest lists.
func calls() []call {
	var out []call
	for _, p := range someOfEach() {
		b := plainSeal(someKey(), 1, p.Head, p.Text)
		out = append(out, sealCall("Seal", someKey(), 1, p), openCall("Open", someKey(), 1, b), getHeadCall("GetHead", b))
	}
	for _, n := range []int{0, 1, 2, 30, 1247, 1271} {
		p := payload(addr4(0x0A000001), addr4(0x0A000002), counted(5, 3, n))
		out = append(out, putPayloadCall("PutPayload", p), getPayloadCall("GetPayload", plainPayload(p)))
	}
	for _, n := range []int{0, 1, 2, 30, 1247} {
		p := payload(addr6(1, 2), addr6(3, 4), counted(5, 3, n))
		out = append(out, putPayloadCall("PutPayload", p), getPayloadCall("GetPayload", plainPayload(p)))
	}
	return append(out,
		noLists("PutHead", func() []byte {
			b, _ := packet.PutHead(head(3, 7, 1, 258))
			return b
		}),
		noLists("Nonce", func() []byte { return packet.Nonce(1, 1, 258) }))
}

// refusals are calls that answer nothing.
func refusals() []call {
	p := packetWith(3, 40)
	b := plainSeal(someKey(), 1, p.Head, p.Text)
	near := bytes.Clone(b)
	near[len(near)-1]++
	return []call{
		sealCall("Seal with a short key", someKey()[:31], 1, p),
		sealCall("Seal with no side", someKey(), 2, p),
		sealCall("Seal of no head", someKey(), 1, api.Packet{Head: head(4, 7, 1, 0), Text: p.Text}),
		sealCall("Seal of a long text", someKey(), 1, packetWith(3, mtu+1)),
		sealCall("Seal of no text", someKey(), 1, packetWith(1, 0)),
		openCall("Open with a short key", someKey()[:31], 1, b),
		openCall("Open under the other side", someKey(), 0, b),
		openCall("Open with no side", someKey(), 2, b),
		openCall("Open of another tag", someKey(), 1, near),
		openCall("Open of a packet cut off", someKey(), 1, b[:19]),
		openCall("Open of no bytes", someKey(), 1, nil),
		putPayloadCall("PutPayload of two families", payload(addr4(1), addr6(0, 1), []byte("body"))),
		putPayloadCall("PutPayload of no address", payload(addr4(1<<32), addr4(1), []byte("body"))),
		putPayloadCall("PutPayload of a long body", payload(addr4(1), addr4(1), make([]byte, 1272))),
		getPayloadCall("GetPayload of no family", counted(5, 1, 40)),
		getPayloadCall("GetPayload of too few", counted(6, 1, 32)),
		getPayloadCall("GetPayload of too many", counted(4, 1, mtu+1)),
		getPayloadCall("GetPayload of no bytes", nil),
		getHeadCall("GetHead of another length", b[:44]),
		getHeadCall("GetHead of no head", counted(0, 1, 48)),
		getHeadCall("GetHead of no bytes", nil),
		noLists("PutHead of no head", func() []byte {
			b, _ := packet.PutHead(head(0, 7, 1, 258))
			return b
		}),
		noLists("Nonce of no side", func() []byte { return packet.Nonce(2, 1, 258) }),
	}
}

// P9.8: no call changes what is handed in, nor what lies around it, whether it takes it or not.
func TestCallsLeaveTheirLists(t *testing.T) {
	for _, c := range append(calls(), refusals()...) {
		rooms, lists := c.rooms()
		c.run(lists)
		c.wantUnchanged(t, rooms)
	}
}

// P9.8: an answer is new memory: it does not hang on lists that their owner changes behind the call, nor they, nor another answer, on what a caller writes into it.
func TestAnswersAreNewMemory(t *testing.T) {
	for _, c := range append(calls(), refusals()...) {
		rooms, lists := c.rooms()
		one, two := c.run(lists), c.run(lists)
		want := bytes.Clone(one)
		spoil(one)
		c.wantUnchanged(t, rooms)
		c.want(t, "another answer", two, want)
		again := c.run(lists)
		c.want(t, "the same behind a write into an answer", again, want)
		for _, r := range rooms {
			spoil(r.all)
		}
		c.want(t, "an answer behind a change of the lists", two, want)
		c.want(t, "the next one", again, want)
	}
}

// P9.8: what a caller appends to an answer is seen by nothing else.
func TestAppendingToAnswers(t *testing.T) {
	for _, c := range append(calls(), refusals()...) {
		rooms, lists := c.rooms()
		one, two := c.run(lists), c.run(lists)
		want := bytes.Clone(one)
		for n := range 40 { // one by one, so that the spare room is used where there is some
			one, two = append(one, byte(n)), append(two, byte(n+100))
		}
		c.wantUnchanged(t, rooms)
		c.want(t, "an answer that was grown", one, append(bytes.Clone(want), counted(0, 1, 40)...))
		c.want(t, "another one", two, append(bytes.Clone(want), counted(100, 1, 40)...))
		c.want(t, "the same behind that", c.run(lists), want)
	}
}

// P9.8: the spare room of an answer is no other answer's.
func TestSpareRoomIsNew(t *testing.T) {
	for _, c := range calls() {
		_, lists := c.rooms()
		var answers [][]byte
		for range 10 {
			answers = append(answers, c.run(lists))
		}
		for i, x := range answers {
			full := x[:cap(x)]
			for j := range full {
				full[j] = byte(i)
			}
		}
		for i, x := range answers {
			if full := x[:cap(x)]; bytes.Count(full, []byte{byte(i)}) != len(full) {
				t.Errorf("%s: the answer %d shows what was written into another one: %s", c.name, i, brief(full))
			}
		}
	}
}

// P9.8: nothing is kept: what the owner makes of a list behind a call is what the next call takes.
func TestNothingIsKept(t *testing.T) {
	key, p := someKey(), packetWith(3, 40)
	mustSeal(t, key, 0, p)
	spoil(key)
	wantSeal(t, key, 0, p, plainSeal(key, 0, p.Head, p.Text))
	spoil(p.Text)
	b := plainSeal(key, 0, p.Head, p.Text)
	wantSeal(t, key, 0, p, b)
	wantOpen(t, key, 0, b, p)
	b[19]++
	wantNoOpen(t, "a byte changed by its owner", key, 0, b)
	wantGetHead(t, b, head(3, 7, 1, 259), api.OK)
	b[19]--
	wantOpen(t, key, 0, b, p)
	spoil(key)
	wantNoOpen(t, "a key changed by its owner", key, 0, b)

	q := payload(addr4(1), addr4(2), []byte("body"))
	wantPutPayload(t, q, plainPayload(q))
	spoil(q.Body)
	wantPutPayload(t, q, plainPayload(q))
	laid := plainPayload(q)
	wantGetPayload(t, laid, q, api.OK)
	laid[8]++
	wantGetPayload(t, laid, payload(addr4(1), addr4(3), q.Body), api.OK)
	laid[0] = 6
	wantNoPayloadIn(t, laid)
}

// P9.8: one list may be handed in as several.
func TestOneListAsSeveral(t *testing.T) {
	all := counted(3, 7, 100)
	was := bytes.Clone(all)
	p := api.Packet{Head: head(3, 7, 1, 258), Text: all[10:]}
	b := mustSeal(t, all[:32], 0, p)
	if want := plainSeal(was[:32], 0, p.Head, was[10:]); !bytes.Equal(b, want) || !bytes.Equal(all, was) {
		t.Errorf("Seal of one list = %s, want %s; the list is %s", brief(b), brief(want), brief(all))
	}
	joined := append(bytes.Clone(b), was[:32]...)
	wantOpen(t, joined[len(b):], 0, joined[:len(b)], p)
	if !bytes.Equal(joined[:len(b)], b) || !bytes.Equal(joined[len(b):], was[:32]) {
		t.Errorf("Open of one list has made it %s", brief(joined))
	}
}

// P9.8, P0.4: calls do not see one another: all of them, in some orders.
func TestCallsDoNotSeeOneAnother(t *testing.T) {
	all := append(calls(), refusals()...)
	var want [][]byte
	for _, c := range all {
		want = append(want, c.run(c.lists))
	}
	s := newSampler(16)
	for range 5 {
		for _, i := range s.Perm(len(all)) {
			all[i].want(t, "behind other calls", all[i].run(all[i].lists), want[i])
		}
	}
}
