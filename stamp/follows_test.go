package stamp_test

import (
	"bytes"
	"testing"

	"culvert/api"
	"culvert/stamp"
)

// someInOrder are stamps in order, few enough to hold each against each other two.
func someInOrder() []api.Stamp {
	var out []api.Stamp
	for _, sec := range []int{0, 1, 255, 256, 1 << 32, maxSec - 1, maxSec} {
		for _, nano := range []int{0, 1, 255, 256, 1 << 24, maxNano - 1, maxNano} {
			out = append(out, stampOf(sec, nano))
		}
	}
	return out
}

// P6.9: the order of Less is that of the twelve bytes.
func TestLessIsTheOrderOfTheBytes(t *testing.T) {
	stamps := append(edgeStamps(), sampleStamps(3)[:200]...)
	for _, a := range stamps {
		for _, b := range stamps {
			ahead := bytes.Compare(stamp.Put(a), stamp.Put(b)) < 0
			if stamp.Less(a, b) != ahead {
				t.Fatalf("Less(%v, %v) = %v, and the bytes %v", a, b, !ahead, ahead)
			}
		}
	}
}

// P6.9: the same of samples that are near one another.
func TestLessIsTheOrderOfTheBytesOfNearOnes(t *testing.T) {
	s := newSampler(4)
	for range 20000 {
		a := s.stamp()
		b := a
		if s.IntN(2) == 0 {
			b.Sec ^= 1 << s.IntN(63)
		}
		b.Nano = (b.Nano ^ 1<<s.IntN(30)) % (maxNano + 1)
		ahead := bytes.Compare(stamp.Put(a), stamp.Put(b)) < 0
		if stamp.Less(a, b) != ahead {
			t.Fatalf("Less(%v, %v) = %v, and the bytes %v", a, b, !ahead, ahead)
		}
	}
}

// P6.9: just one of two unlike ones is Less, none than itself, and Less goes on from two to three.
func TestOneOrder(t *testing.T) {
	stamps := someInOrder()
	for i, a := range stamps {
		for j, b := range stamps {
			if got := stamp.Less(a, b); got != (i < j) {
				t.Errorf("Less(%v, %v) = %v", a, b, got)
			}
			if a != b && stamp.Less(a, b) == stamp.Less(b, a) {
				t.Errorf("of %v and %v not just one is Less", a, b)
			}
			for _, c := range stamps {
				if stamp.Less(a, b) && stamp.Less(b, c) && !stamp.Less(a, c) {
					t.Errorf("%v, %v, %v: the first is not Less than the last", a, b, c)
				}
			}
		}
	}
}

// P6.9: Next is one place above, so nothing is between, and stands above in the order and in the bytes.
func TestNothingIsBetween(t *testing.T) {
	for _, s := range sampleStamps(5) {
		if s == greatest {
			continue
		}
		next, ok := stamp.Next(s)
		if !ok || next != beside(s, 1) {
			t.Errorf("Next(%v) = %v, %v", s, next, ok)
		}
		if !stamp.Valid(next) || !stamp.Less(s, next) || bytes.Compare(stamp.Put(s), stamp.Put(next)) >= 0 {
			t.Errorf("Next(%v) = %v is not above", s, next)
		}
		for far := int64(-2); far <= 2; far++ {
			near := beside(s, far)
			if stamp.Valid(near) && stamp.Less(s, near) && stamp.Less(near, next) {
				t.Errorf("%v is between %v and its Next", near, s)
			}
		}
	}
}

// P6.9: every stamp but the zero stamp is the Next of the one ahead of it.
func TestEveryOneIsANext(t *testing.T) {
	for _, s := range sampleStamps(6) {
		if s != zero {
			wantNext(t, beside(s, -1), s, true)
		}
	}
}

// P6.9: of no two stamps Next is the same, and of none it is the zero stamp.
func TestNextOfJustOne(t *testing.T) {
	of := map[api.Stamp]api.Stamp{}
	for _, s := range sampleStamps(7) {
		for far := int64(0); far < 3; far++ {
			near := beside(s, far)
			next, ok := stamp.Next(near)
			if !ok {
				continue
			}
			if other, twice := of[next]; twice && other != near || next == zero {
				t.Errorf("Next(%v) = %v, which is also that of %v, or the zero stamp", near, next, other)
			}
			of[next] = near
		}
	}
}

// P6.9: Next again and again goes through a second's end without a gap.
func TestNextAgainAndAgain(t *testing.T) {
	for _, first := range []api.Stamp{zero, stampOf(7, maxNano-500), stampOf(1<<32-1, maxNano-500), stampOf(maxSec-1, maxNano-500)} {
		s := first
		for n := range int64(1000) {
			if s != beside(first, n) {
				t.Fatalf("%d times Next of %v = %v", n, first, s)
			}
			s, _ = stamp.Next(s)
		}
	}
}

// P6.10: there and back by bytes, twelve of them.
func TestGetOfPut(t *testing.T) {
	for _, s := range sampleStamps(8) {
		b := stamp.Put(s)
		if len(b) != 12 {
			t.Errorf("Put(%v) has %d bytes", s, len(b))
		}
		wantGet(t, b, s, api.OK)
	}
}

// P6.10: whatever bytes Get takes are Put of its answer, and it takes all that are within the bounds.
func TestPutOfGet(t *testing.T) {
	s := newSampler(9)
	took := 0
	for range 50000 {
		b := make([]byte, 12)
		for i := range b {
			b[i] = byte(s.Uint32() >> s.IntN(32))
		}
		want, wantErr := plainGet(b)
		wantGet(t, b, want, wantErr)
		got, e := stamp.Get(b)
		if e == api.OK {
			took++
			wantPut(t, got, b)
		}
	}
	if took == 0 {
		t.Error("no bytes were taken")
	}
}

// P6.10: there and back by text.
func TestParseOfPrint(t *testing.T) {
	for _, s := range sampleStamps(10) {
		wantParse(t, stamp.Print(s), s, api.OK)
	}
}

// P6.10: whatever text Parse takes is Print of its answer, and it takes all that have the form.
func TestPrintOfParse(t *testing.T) {
	const signs = "0123456789"
	s := newSampler(11)
	took := 0
	for range 50000 {
		text := make([]byte, 10+s.IntN(20))
		for i := range text {
			text[i] = signs[s.IntN(len(signs))]
		}
		text[len(text)-10+s.IntN(20)/19] = '.' // one place off now and then
		whole := string(text)
		want, wantErr := plainParse(whole)
		wantParse(t, whole, want, wantErr)
		if got, e := stamp.Parse(whole); e == api.OK {
			took++
			wantPrint(t, got, whole)
		}
	}
	if took == 0 {
		t.Error("no text was taken")
	}
}

// P6.10: unlike stamps have unlike bytes and unlike texts.
func TestUnlikeStamps(t *testing.T) {
	byBytes, byText := map[string]api.Stamp{}, map[string]api.Stamp{}
	for _, s := range sampleStamps(12) {
		b, text := string(stamp.Put(s)), stamp.Print(s)
		if other, twice := byBytes[b]; twice && other != s {
			t.Errorf("%v and %v have the bytes %x", s, other, b)
		}
		if other, twice := byText[text]; twice && other != s {
			t.Errorf("%v and %v have the text %s", s, other, text)
		}
		byBytes[b], byText[text] = s, s
	}
}
