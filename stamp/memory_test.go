package stamp_test

import (
	"bytes"
	"testing"

	"culvert/api"
	"culvert/stamp"
)

// spoil writes over all that a caller may write over, the spare room too.
func spoil(list []byte) {
	list = list[:cap(list)]
	for i := range list {
		list[i] ^= 0xA5
	}
}

// P6.8: Get leaves its list as it was, and what lies around it, whether it takes it or not.
func TestGetLeavesItsList(t *testing.T) {
	for n := range 20 {
		for _, first := range []byte{0, 0x7F, 0x80, 0xFF} {
			all := bytes.Repeat([]byte{0x11, 0x22, 0x33}, 20)
			all[20] = first
			was := bytes.Clone(all)
			stamp.Get(all[20 : 20+n])
			if !bytes.Equal(all, was) {
				t.Errorf("Get of %d bytes: the list, or what lies around it, has become %x", n, all)
			}
		}
	}
}

// P6.8: Get keeps nothing: what the owner makes of the list behind a call is what the next call takes, and no answer hangs on it.
func TestGetKeepsNothing(t *testing.T) {
	b := plainPut(stampOf(1, 2))
	first, _ := stamp.Get(b)
	copy(b, plainPut(stampOf(3, 4)))
	second, _ := stamp.Get(b)
	b[0] = 0x80
	wantGet(t, b, zero, api.ErrStampForm)
	spoil(b)
	if first != stampOf(1, 2) || second != stampOf(3, 4) {
		t.Errorf("Get = %v and %v, want {1 2} and {3 4}", first, second)
	}
}

// P6.8: no answer of Put shows what a caller writes into another one, or appends to it.
func TestPutAnswersNewMemory(t *testing.T) {
	for _, s := range []api.Stamp{zero, stampOf(1, 2), greatest} {
		want := plainPut(s)
		one, two := stamp.Put(s), stamp.Put(s)
		spoil(one)
		longer := append(one, 1, 2, 3)
		if !bytes.Equal(two, want) {
			t.Errorf("Put(%v) has become %x by a write into another answer", s, two)
		}
		wantPut(t, s, want)
		more := append(two, 4, 5, 6)
		spoil(longer)
		if !bytes.Equal(more, append(bytes.Clone(want), 4, 5, 6)) {
			t.Errorf("what was appended to Put(%v) has become %x", s, more)
		}
		wantPut(t, s, want)
	}
}

// P6.8: the spare room of an answer is no other answer's, and none of the list of which Get made the stamp.
func TestSpareRoomIsNew(t *testing.T) {
	b := plainPut(stampOf(1, 2))
	s, _ := stamp.Get(b)
	var answers [][]byte
	for range 50 {
		answers = append(answers, stamp.Put(s))
	}
	for i, x := range answers {
		full := x[:cap(x)]
		for j := range full {
			full[j] = byte(i)
		}
	}
	for i, x := range answers {
		for _, y := range x[:cap(x)] {
			if y != byte(i) {
				t.Fatalf("answer %d shows what was written into another one: %x", i, x[:cap(x)])
			}
		}
	}
	if !bytes.Equal(b, plainPut(stampOf(1, 2))) {
		t.Errorf("the list that Get was given has become %x", b)
	}
}

// P6.8: Put of what is no stamp hands out no room that another answer has.
func TestPutOfNoStampHandsOutNothing(t *testing.T) {
	one, two := stamp.Put(stampOf(-1, 0)), stamp.Put(stampOf(0, -1))
	grown := append(one, 7)
	_ = append(two, 8)
	if len(grown) != 1 || grown[0] != 7 {
		t.Errorf("what was appended to no bytes has become %x", grown)
	}
	wantPut(t, stampOf(-1, 0), nil)
}

// P6.8, P0.4: calls do not see one another.
func TestCallsDoNotSeeOneAnother(t *testing.T) {
	for _, s := range sampleStamps(13)[:300] {
		b, text := stamp.Put(s), stamp.Print(s)
		stamp.Put(greatest)
		stamp.Get(make([]byte, 11))
		stamp.Get(plainPut(stampOf(5, 6)))
		stamp.Parse("12.34")
		stamp.Parse("99.000000099")
		stamp.Print(stampOf(0, -1))
		stamp.Next(greatest)
		wantPut(t, s, b)
		wantGet(t, b, s, api.OK)
		wantPrint(t, s, text)
		wantParse(t, text, s, api.OK)
	}
}
