package sector_test

import (
	"bytes"
	"testing"

	"culvert/api"
	"culvert/sector"
)

// room is a list in the middle of a longer one, whose bytes ahead and behind are watched too.
type room struct {
	all, was []byte
	list     []byte
}

func newRoom(list []byte) *room {
	const around = 600 // more than a sector has
	all := counted(100, 11, around)
	all = append(all, list...)
	all = append(all, counted(200, 13, around)...)
	return &room{all, bytes.Clone(all), all[around : around+len(list)]}
}

// spoil writes over all that a caller may write over, the spare room too.
func spoil(list []byte) {
	list = list[:cap(list)]
	for i := range list {
		list[i] ^= 0xA5
	}
}

// call is a call of the package with the list that it is given; run answers the list that it hands out.
type call struct {
	name string
	list []byte
	run  func(list []byte) []byte
}

func (c call) wantUnchanged(t *testing.T, r *room) {
	t.Helper()
	if !bytes.Equal(r.all, r.was) {
		t.Errorf("%s: its list, or what lies around it, has become %s", c.name, brief(r.all))
	}
}

func (c call) want(t *testing.T, what string, got, want []byte) {
	t.Helper()
	if !bytes.Equal(got, want) {
		t.Errorf("%s: %s = %s, want %s", c.name, what, brief(got), brief(want))
	}
}

func putCall(name string, s api.Sector) call {
	return call{name, s.Body, func(list []byte) []byte {
		b, _ := sector.Put(sectorOf(s.Tag, s.Epoch, s.Seq, s.Place, list))
		return b
	}}
}

func getCall(name string, b []byte) call {
	return call{name, b, func(list []byte) []byte {
		s, _ := sector.Get(list)
		return s.Body
	}}
}

func rightCall(name string, b []byte, ask api.Sector) call {
	return call{name, b, func(list []byte) []byte {
		body, _ := right(list, ask)
		return body
	}}
}

// calls are calls of all kinds, with bodies of many lengths.
func calls() []call {
	var out []call
	for _, n := range []int{0, 1, 2, 3, 4, 28, 255, 478, 479, 480} {
		for _, tag := range tags {
			s := sectorOf(tag, 1, maxSeq, 3, counted(n, 7, n))
			out = append(out, putCall("Put", s), getCall("Get", plainPut(s)), rightCall("Right", plainPut(s), s))
		}
	}
	return out
}

// refusals are calls that answer nothing.
func refusals() []call {
	s := example()
	b := plainPut(s)
	return []call{
		putCall("Put of no tag", sectorOf("CVX1", 1, 2, 3, s.Body)),
		putCall("Put of no epoch", sectorOf("CVO1", 0, 2, 3, s.Body)),
		putCall("Put of a long body", sectorOf("CVO1", 1, 2, 3, counted(1, 7, 481))),
		getCall("Get of no bytes", nil),
		getCall("Get of too few", b[:511]),
		getCall("Get of too many", append(bytes.Clone(b), 0)),
		getCall("Get of a wrong sum", with(b, 511, 0)),
		getCall("Get of a length beyond the body", laid("CVO1", 1, 2, 3, 481, 0, counted(1, 7, 480))),
		getCall("Get of a length beyond the bytes", laid("CVO1", 1, 2, 3, 65535, 0, counted(1, 7, 480))),
		getCall("Get of something behind the body", summed(with(b, 40, 1))),
		rightCall("Right for another place", b, sectorOf("CVO1", 1, 2, 4, nil)),
		rightCall("Right for no tag", b, sectorOf("CVX1", 1, 2, 3, nil)),
		rightCall("Right of too few", b[:511], s),
		rightCall("Right of a wrong sum", with(b, 511, 0), s),
		rightCall("Right of no bytes", nil, s),
	}
}

// P11.4: no call changes what is handed in, nor what lies around it, whether it takes it or not.
func TestCallsLeaveTheirLists(t *testing.T) {
	for _, c := range append(calls(), refusals()...) {
		r := newRoom(c.list)
		c.run(r.list)
		c.wantUnchanged(t, r)
	}
}

// P11.4: an answer is new memory: it does not hang on a list that its owner changes behind the call, nor that list, nor another answer, on what a caller writes into it.
func TestAnswersAreNewMemory(t *testing.T) {
	for _, c := range append(calls(), refusals()...) {
		r := newRoom(c.list)
		one, two := c.run(r.list), c.run(r.list)
		want := bytes.Clone(one)
		spoil(one)
		c.wantUnchanged(t, r)
		c.want(t, "another answer", two, want)
		again := c.run(r.list)
		c.want(t, "the same behind a write into an answer", again, want)
		spoil(r.all)
		c.want(t, "an answer behind a change of the list", two, want)
		c.want(t, "the next one", again, want)
	}
}

// P11.4: what a caller appends to an answer is seen by nothing else.
func TestAppendingToAnswers(t *testing.T) {
	for _, c := range append(calls(), refusals()...) {
		r := newRoom(c.list)
		one, two := c.run(r.list), c.run(r.list)
		want := bytes.Clone(one)
		for n := range 600 { // one by one, so that the spare room is used where there is some
			one, two = append(one, byte(n)), append(two, byte(n+100))
		}
		c.wantUnchanged(t, r)
		c.want(t, "an answer that was grown", one, append(bytes.Clone(want), counted(0, 1, 600)...))
		c.want(t, "another one", two, append(bytes.Clone(want), counted(100, 1, 600)...))
		c.want(t, "the same behind that", c.run(r.list), want)
	}
}

// P11.4: the spare room of an answer is no other answer's.
func TestSpareRoomIsNew(t *testing.T) {
	for _, c := range calls() {
		r := newRoom(c.list)
		var answers [][]byte
		for range 10 {
			answers = append(answers, c.run(r.list))
		}
		for i, x := range answers {
			full := x[:cap(x)]
			for j := range full {
				full[j] = byte(i)
			}
		}
		for i, x := range answers {
			if full := x[:cap(x)]; bytes.Count(full, []byte{byte(i)}) != len(full) {
				t.Errorf("%s: the answer %d shows what was written into another one: %s", c.name, i, brief(full))
			}
		}
		c.wantUnchanged(t, r)
	}
}

// P11.4: nothing is kept: what the owner makes of a list behind a call is what the next call takes.
func TestNothingIsKept(t *testing.T) {
	s := example()
	wantPut(t, s, plainPut(s))
	spoil(s.Body)
	b := plainPut(s)
	wantPut(t, s, b)
	wantGet(t, b, s)
	wantRight(t, b, s, s.Body)
	b[28]++
	wantNone(t, b, s)
	b[28]--
	wantGet(t, b, s)
	wantRight(t, b, s, s.Body)
	copy(b, summed(with(b, 23, 4)))
	wantNotRight(t, b, s)
	wantGet(t, b, sectorOf("CVO1", 1, 2, 4, s.Body))
}

// P11.4: what Put answers may itself be a body, and what Get answers be put again.
func TestAnswersHandedIn(t *testing.T) {
	first := mustPut(t, sectorOf("CVO1", 1, 2, 3, counted(1, 7, 100)))
	was := bytes.Clone(first)
	second := mustPut(t, sectorOf("CVD1", 4, 5, 6, first[:480]))
	spoil(first)
	wantGet(t, second, sectorOf("CVD1", 4, 5, 6, was[:480]))
	got, _ := sector.Get(second)
	third := mustPut(t, got)
	spoil(got.Body)
	wantGet(t, third, sectorOf("CVD1", 4, 5, 6, was[:480]))
	wantGet(t, second, sectorOf("CVD1", 4, 5, 6, was[:480]))
}

// P11.4, P0.4: calls do not see one another: all of them, in some orders.
func TestCallsDoNotSeeOneAnother(t *testing.T) {
	all := append(calls(), refusals()...)
	var want [][]byte
	for _, c := range all {
		want = append(want, c.run(c.list))
	}
	s := newSampler(50)
	for range 5 {
		for _, i := range s.Perm(len(all)) {
			all[i].want(t, "behind other calls", all[i].run(all[i].list), want[i])
		}
	}
}
