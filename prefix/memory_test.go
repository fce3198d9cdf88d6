package prefix_test

import (
	"bytes"
	"testing"

	"culvert/api"
	"culvert/prefix"
)

// spoil writes over all that a caller may write over, the spare room too.
func spoil(list []byte) {
	list = list[:cap(list)]
	for i := range list {
		list[i] ^= 0xA5
	}
}

// P7.8: Get leaves its list as it was, and what lies around it, whether it takes it or not.
func TestGetLeavesItsList(t *testing.T) {
	for n := range 24 {
		for _, head := range [][]byte{{4, 16, 10, 1, 0, 0}, {4, 33}, {5, 0}, {6, 8, 0xFD}, {6, 129}} {
			all := bytes.Repeat([]byte{0x11, 0x22, 0x33}, 20)
			clear(all[20:38])
			copy(all[20:], head)
			was := bytes.Clone(all)
			prefix.Get(all[20 : 20+n])
			if !bytes.Equal(all, was) {
				t.Errorf("Get of %d bytes: the list, or what lies around it, has become %x", n, all)
			}
		}
	}
}

// P7.8: Get keeps nothing: what the owner makes of the list behind a call is what the next call takes, and no answer hangs on it.
func TestGetKeepsNothing(t *testing.T) {
	b := make([]byte, 18, 40)
	copy(b, plainPut(prefix4(0x0A010000, 16)))
	first, _, _ := prefix.Get(b)
	copy(b, plainPut(prefix6(1, 2, 128)))
	second, _, _ := prefix.Get(b)
	b[1] = 129
	wantNoBytes(t, b)
	spoil(b)
	if first != prefix4(0x0A010000, 16) || second != prefix6(1, 2, 128) {
		t.Errorf("Get = %v and %v", first, second)
	}
}

// answers are PutAddr's and Put's, of both families.
func answers() [][]byte {
	return [][]byte{
		prefix.PutAddr(addr4(0x01020304)), prefix.PutAddr(addr6(5, 6)), prefix.PutAddr(addr4(0)), prefix.PutAddr(addr6(0, 0)),
		prefix.Put(prefix4(0x0A010000, 16)), prefix.Put(prefix6(7, 1<<63, 65)), prefix.Put(prefix4(0, 0)), prefix.Put(prefix6(0, 0, 0)),
	}
}

// P7.8: no answer shows what a caller writes into another one, or appends to it.
func TestPutAnswersNewMemory(t *testing.T) {
	want := answers()
	for i := range want {
		one, two := answers()[i], answers()[i]
		spoil(one)
		longer := append(one, 1, 2, 3)
		more := append(two, 4, 5, 6)
		spoil(longer)
		if !bytes.Equal(more, append(bytes.Clone(want[i]), 4, 5, 6)) {
			t.Errorf("answer %d has become %x by writes into another one", i, more)
		}
		for j, x := range answers() {
			if !bytes.Equal(x, want[j]) {
				t.Errorf("behind writes into answer %d answer %d is %x, want %x", i, j, x, want[j])
			}
		}
	}
}

// P7.8: the spare room of an answer is no other answer's, and not the list's of which Get made the prefix.
func TestSpareRoomIsNew(t *testing.T) {
	b := plainPut(prefix6(7, 1<<63, 65))
	was := bytes.Clone(b)
	p, _, _ := prefix.Get(b)
	var all [][]byte
	for range 20 {
		all = append(all, answers()...)
		all = append(all, prefix.Put(p), prefix.PutAddr(p.Addr))
	}
	for i, x := range all {
		full := x[:cap(x)]
		for j := range full {
			full[j] = byte(i)
		}
	}
	for i, x := range all {
		for _, y := range x[:cap(x)] {
			if y != byte(i) {
				t.Fatalf("answer %d shows what was written into another one: %x", i, x[:cap(x)])
			}
		}
	}
	if !bytes.Equal(b, was) {
		t.Errorf("the list that Get was given has become %x", b)
	}
}

// P7.8: of what is no prefix or address no room is handed out that another answer has.
func TestPutOfNoneHandsOutNothing(t *testing.T) {
	one, two := prefix.Put(prefix4(1, 0)), prefix.Put(prefix6(1, 0, 0))
	three, four := prefix.PutAddr(noneAddr), prefix.PutAddr(addr4(1<<32))
	grown := append(one, 7)
	grownAddr := append(three, 8)
	_, _ = append(two, 9), append(four, 9)
	if !bytes.Equal(grown, []byte{7}) || !bytes.Equal(grownAddr, []byte{8}) {
		t.Errorf("what was appended to no bytes has become %x and %x", grown, grownAddr)
	}
	wantPut(t, prefix4(1, 0), nil)
	wantPutAddr(t, noneAddr, nil)
}

// P7.8, P0.4: calls do not see one another.
func TestCallsDoNotSeeOneAnother(t *testing.T) {
	for _, p := range samplePrefixes(27)[:300] {
		b, text := prefix.Put(p), prefix.Print(p)
		prefix.Put(prefix6(max64, max64, 128))
		prefix.Get(make([]byte, 17))
		prefix.Get(plainPut(prefix4(max32, 32)))
		prefix.Parse("10.1.0.1/16")
		prefix.Parse("10.1.0.0/16")
		prefix.ParseAddr("ffff:0000")
		prefix.Print(prefix4(1, 0))
		prefix.Holds(prefix6(0, 0, 0), addr6(1, 1))
		wantPut(t, p, b)
		wantGet(t, b, p, len(b), api.OK)
		wantPrint(t, p, text)
		wantParse(t, text, p, api.OK)
	}
}
