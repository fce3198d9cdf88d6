package crc_test

import (
	"bytes"
	"math"
	"math/rand/v2"
	"testing"
	"time"

	"culvert/crc"
)

// edgeNumbers are registers and sums at which a slip of the pen would show.
var edgeNumbers = []uint32{0, 1, 2, 6, 15, 16, 255, 256, 0x7FFFFFFF, 0x80000000, 0x82F63B78, 0xDEADBEEF, 0xFFFFFFFE, 0xFFFFFFFF}

// someBytes makes n bytes that are the same at every run.
func someBytes(seed uint64, n int) []byte {
	r := rand.New(rand.NewPCG(seed, uint64(n)))
	b := make([]byte, n)
	for i := range b {
		b[i] = byte(r.Uint32())
	}
	return b
}

func wantSum(t *testing.T, what string, got, want uint32) {
	t.Helper()
	if got != want {
		t.Errorf("%s = %08X, want %08X", what, got, want)
	}
}

// P2.3: the answer comes at once, however great n is. It stands first and panics, for the tests behind it would not end either.
func TestJoinAnswersAtOnce(t *testing.T) {
	done := make(chan bool)
	go func() {
		for n := math.MaxInt; n > 0; n >>= 1 {
			crc.Join(0xFFFFFFFF, 0, n)
			crc.Join(0xFFFFFFFF, 0, n-1)
		}
		close(done)
	}()
	select {
	case <-done:
	case <-time.After(20 * time.Second):
		panic("Join takes its time at great lengths")
	}
}

// P2.1: the chapter's examples, and sums that RFC 3720 (B.4) names.
func TestSumOfKnownBytes(t *testing.T) {
	rising, falling := make([]byte, 32), make([]byte, 32)
	for i := range 32 {
		rising[i], falling[i] = byte(i), byte(31-i)
	}
	for _, c := range []struct {
		what string
		b    []byte
		want uint32
	}{
		{"nil", nil, 0},
		{"no bytes", []byte{}, 0},
		{"culvert", []byte("culvert"), 0x393752ED},
		{"7 bytes 00", make([]byte, 7), 0xBB3E6A6D},
		{"FA to 03", []byte{0xFA, 0xFB, 0xFC, 0xFD, 0xFE, 0xFF, 0, 1, 2, 3}, 0xADFE97F5},
		{" lane", []byte(" lane"), 0x0C2F035A},
		{"123456789", []byte("123456789"), 0xE3069283},
		{"32 bytes 00", make([]byte, 32), 0x8A9136AA},
		{"32 bytes FF", bytes.Repeat([]byte{0xFF}, 32), 0x62A8AB43},
		{"32 rising bytes", rising, 0x46DD794E},
		{"32 falling bytes", falling, 0x113FDB5C},
	} {
		wantSum(t, c.what, crc.Sum(c.b), c.want)
	}
}

// P2.1: each byte alone and behind another, and lists of many lengths, as the chapter's words make their sums.
func TestSumGoesByTheSteps(t *testing.T) {
	for x := range 256 {
		for y := range 256 {
			b := []byte{byte(x), byte(y)}
			if got, want := crc.Sum(b), plainSum(b); got != want {
				t.Fatalf("Sum(%X) = %08X, want %08X", b, got, want)
			}
		}
		wantSum(t, "one byte", crc.Sum([]byte{byte(x)}), plainSum([]byte{byte(x)}))
	}
	for n := range 600 {
		b := someBytes(1, n)
		wantSum(t, "many bytes", crc.Sum(b), plainSum(b))
	}
}

// P2.2: any number for c, with and without bytes behind it.
func TestUpdateBeginsAtAnyNumber(t *testing.T) {
	wantSum(t, "the example", crc.Update(crc.Sum([]byte("culvert")), []byte(" lane")), 0x850CB592)
	for _, c := range edgeNumbers {
		wantSum(t, "nil", crc.Update(c, nil), c)
		wantSum(t, "no bytes", crc.Update(c, []byte{}), c)
		for n := range 40 {
			b := someBytes(2, n)
			wantSum(t, "Update", crc.Update(c, b), plainUpdate(c, b))
		}
	}
}

// P2.2 and P2.3: wherever bytes are cut, the parts make the sum of the whole.
func TestPartsMakeTheSumOfTheWhole(t *testing.T) {
	b := someBytes(3, 260)
	all := plainSum(b)
	for i := range len(b) + 1 {
		x, y := b[:i], b[i:]
		wantSum(t, "Update", crc.Update(crc.Sum(x), y), all)
		wantSum(t, "Join", crc.Join(crc.Sum(x), crc.Sum(y), len(y)), all)
	}
}

// P2.3: the chapter's examples.
func TestJoinExamples(t *testing.T) {
	for _, c := range []struct {
		a, b uint32
		n    int
		want uint32
	}{
		{0x393752ED, 0x0C2F035A, 5, 0x850CB592},
		{1, 0, 0, 1},
		{1, 5, -1, 0},
		{6, 9, 3, 0xD1B1F61E},
		{2, 0, 1 << 62, 0xE13B70F7},
		{0xFFFFFFFF, 0, 2147483647, 0xFFFFFFFF},
	} {
		if got := crc.Join(c.a, c.b, c.n); got != c.want {
			t.Errorf("Join(%X, %X, %d) = %08X, want %08X", c.a, c.b, c.n, got, c.want)
		}
	}
}

// P2.3: a length below 0 answers 0, whatever the sums are.
func TestJoinBelowZero(t *testing.T) {
	for _, n := range []int{-1, -2, -8, -turn, -turn - 1, math.MinInt + 1, math.MinInt} {
		for _, a := range edgeNumbers {
			for _, b := range edgeNumbers {
				wantSum(t, "Join below 0", crc.Join(a, b, n), 0)
			}
		}
	}
}

// P2.3: short lengths, step by step, with any numbers.
func TestJoinGoesByTheSteps(t *testing.T) {
	for n := range 300 {
		for i, a := range edgeNumbers {
			b := edgeNumbers[len(edgeNumbers)-1-i]
			wantSum(t, "Join", crc.Join(a, b, n), plainSteps(a, 8*n)^b)
		}
	}
}

// P2.3: lengths around every multiple of 2^31 - 1 that is tried, to the greatest int. A register that is back at a multiple is some steps before or behind it at the neighbours.
func TestJoinOfGreatLengths(t *testing.T) {
	last := math.MaxInt / turn
	for _, k := range []int{1, 2, 3, 4, 5, 7, 1 << 20, 1<<28 - 1, 1 << 28, 1 << 29, last - 1, last} {
		for j := -20; j <= 20; j++ {
			if k == last && j > math.MaxInt%turn {
				break // no int is as great
			}
			n := k*turn + j
			for _, a := range edgeNumbers {
				if got, want := crc.Join(a, 0xA5A5A5A5, n), plainSteps(a, 8*j)^0xA5A5A5A5; got != want {
					t.Errorf("Join(%X, A5A5A5A5, %d) = %08X, want %08X", a, n, got, want)
				}
			}
		}
	}
}

// P2.3: each single bit is back behind 2^31 - 1 bytes, but not behind one.
func TestJoinTurnsRound(t *testing.T) {
	for i := range 32 {
		a := uint32(1) << i
		wantSum(t, "Join of a whole turn", crc.Join(a, 0, turn), a)
		if crc.Join(a, 0, 1) == a {
			t.Errorf("Join(%X, 0, 1) is where it began", a)
		}
	}
}

// P2.3: the steps of two lengths, one behind the other, are those of their sum, at lengths of any size.
func TestJoinOfLengthsAddsUp(t *testing.T) {
	r := rand.New(rand.NewPCG(4, 4))
	for range 500 {
		n := int(r.Uint64() >> 2 >> r.UintN(62))
		m := int(r.Uint64() >> 2 >> r.UintN(62))
		a := r.Uint32()
		wantSum(t, "Join of two lengths", crc.Join(crc.Join(a, 0, n), 0, m), crc.Join(a, 0, n+m))
	}
}

// P2.4: the bytes and their spare room stay as they are.
func TestBytesAreNotChanged(t *testing.T) {
	for n := range 70 {
		room := someBytes(5, n+16)
		before := bytes.Clone(room)
		crc.Sum(room[:n])
		crc.Update(7, room[:n])
		if !bytes.Equal(room, before) {
			t.Fatalf("%d bytes: %X became %X", n, before, room)
		}
	}
}

// P2.4: a sum goes by the bytes that it is given now, not by what they or others were at an earlier call.
func TestBytesAreNotKept(t *testing.T) {
	b := []byte("culvert")
	wantSum(t, "Sum at first", crc.Sum(b), 0x393752ED)
	clear(b)
	wantSum(t, "Sum of other bytes at the same place", crc.Sum(b), 0xBB3E6A6D)
	wantSum(t, "Update of them", crc.Update(0, b), 0xBB3E6A6D)
	wantSum(t, "Sum of the first bytes again", crc.Sum([]byte("culvert")), 0x393752ED)
	wantSum(t, "Sum of none", crc.Sum(b[:0]), 0)
}
