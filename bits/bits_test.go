package bits_test

import (
	"bytes"
	"math"
	"slices"
	"testing"

	"culvert/api"
	"culvert/bits"
)

type (
	tiny  uint8
	short uint16
	word  uint32
	long  uint64
)

// wantState holds a reader's Err and Left against what they ought to be.
func wantState(t *testing.T, r *bits.Reader, e api.Errno, place, left int) {
	t.Helper()
	for range 2 { // P1.5: asking changes nothing
		if f, p := r.Err(); f != e || p != place {
			t.Errorf("Err = (%d, %d), want (%d, %d)", f, p, e, place)
		}
		if l := r.Left(); l != left {
			t.Errorf("Left = %d, want %d", l, left)
		}
	}
}

func wantBytes(t *testing.T, got, want []byte) {
	t.Helper()
	if !bytes.Equal(got, want) {
		t.Errorf("bytes = %x, want %x", got, want)
	}
}

// P1.1: as many bytes as the type is wide, the highest first.
func TestPutLaysTheNumberBehindTheBytes(t *testing.T) {
	for _, c := range []struct {
		name      string
		got, want []byte
	}{
		{"uint8", bits.Put(nil, uint8(0xfe)), []byte{0xfe}},
		{"uint16", bits.Put(nil, uint16(258)), []byte{1, 2}},
		{"uint32", bits.Put(nil, uint32(0x01020304)), []byte{1, 2, 3, 4}},
		{"uint64", bits.Put(nil, uint64(0x0102030405060708)), []byte{1, 2, 3, 4, 5, 6, 7, 8}},
		{"own uint8", bits.Put(nil, tiny(9)), []byte{9}},
		{"own uint16", bits.Put(nil, short(0x0908)), []byte{9, 8}},
		{"own uint32", bits.Put(nil, word(0x09080706)), []byte{9, 8, 7, 6}},
		{"own uint64", bits.Put(nil, long(0x0908070605040302)), []byte{9, 8, 7, 6, 5, 4, 3, 2}},
		{"zero 8", bits.Put(nil, uint8(0)), make([]byte, 1)},
		{"zero 16", bits.Put(nil, uint16(0)), make([]byte, 2)},
		{"zero 32", bits.Put(nil, uint32(0)), make([]byte, 4)},
		{"zero 64", bits.Put(nil, uint64(0)), make([]byte, 8)},
		{"greatest 16", bits.Put(nil, uint16(math.MaxUint16)), []byte{255, 255}},
		{"greatest 32", bits.Put(nil, uint32(math.MaxUint32)), bytes.Repeat([]byte{255}, 4)},
		{"greatest 64", bits.Put(nil, uint64(math.MaxUint64)), bytes.Repeat([]byte{255}, 8)},
		{"one of 32", bits.Put(nil, uint32(1)), []byte{0, 0, 0, 1}},
		{"top bit", bits.Put(nil, uint64(1)<<63), []byte{128, 0, 0, 0, 0, 0, 0, 0}},
		{"behind nothing", bits.Put([]byte{}, uint8(1)), []byte{1}},
		{"behind a byte", bits.Put([]byte{7}, uint8(255)), []byte{7, 255}},
		{"behind zeros", bits.Put([]byte{0, 0, 0}, uint16(1)), []byte{0, 0, 0, 0, 1}},
	} {
		if !bytes.Equal(c.got, c.want) {
			t.Errorf("%s: Put = %x, want %x", c.name, c.got, c.want)
		}
	}
}

// P1.1, P0.3: b and its spare room are its owner's.
func TestPutLeavesWhatIsHandedIn(t *testing.T) {
	room := []byte{1, 2, 3, 4, 5, 6, 7, 8, 9, 10}
	before := slices.Clone(room)
	b := room[:2]
	first := bits.Put(b, uint64(math.MaxUint64))
	wantBytes(t, room, before)
	second := bits.Put(b, uint16(0))
	wantBytes(t, first, []byte{1, 2, 255, 255, 255, 255, 255, 255, 255, 255})
	wantBytes(t, second, []byte{1, 2, 0, 0})
	first[0], second[1] = 77, 88
	wantBytes(t, room, before)
	room[0], room[1], room[2] = 50, 51, 52
	wantBytes(t, first, []byte{77, 2, 255, 255, 255, 255, 255, 255, 255, 255})
	wantBytes(t, second, []byte{1, 88, 0, 0})
}

// P0.3: a Put behind an answer of Put shares no spare room with its sisters.
func TestPutAnswersShareNoSpareRoom(t *testing.T) {
	stem := bits.Put(nil, uint32(5))
	left, right := bits.Put(stem, uint8(1)), bits.Put(stem, uint8(2))
	grown := append(stem, 3)
	wantBytes(t, left, []byte{0, 0, 0, 5, 1})
	wantBytes(t, right, []byte{0, 0, 0, 5, 2})
	wantBytes(t, grown, []byte{0, 0, 0, 5, 3})
	fill(left)
	wantBytes(t, right, []byte{0, 0, 0, 5, 2})
	wantBytes(t, stem, []byte{0, 0, 0, 5})
}

// fill writes over all that a caller can reach by b, its spare room too.
func fill(b []byte) {
	for i := range b[:cap(b)] {
		b[:cap(b)][i] = 0xee
	}
}

// P1.2, P1.6: the reader has a copy.
func TestReaderReadsACopy(t *testing.T) {
	room := []byte{1, 2, 3, 4, 5}
	r := bits.NewReader(room[:4])
	fill(room)
	wantState(t, r, api.OK, 0, 4)
	wantBytes(t, r.Bytes(2), []byte{1, 2})
	fill(room)
	if x := bits.Get[uint16](r); x != 0x0304 {
		t.Errorf("Get = %x", x)
	}
	if bits.Get[uint8](r); room[4] != 0xee {
		t.Errorf("the reader wrote into what it was given")
	}
	wantState(t, r, api.ErrShort, 4, 0)
}

// P1.6, P0.3: what is written into the reader's answers never reaches what it was given.
func TestBytesNeverReachesWhatWasHandedIn(t *testing.T) {
	room := []byte{1, 2, 3, 4}
	r := bits.NewReader(room[:3])
	fill(r.Bytes(3))
	wantBytes(t, room, []byte{1, 2, 3, 4})
}

// P1.2: nil and the empty list are the same.
func TestReaderOfNothing(t *testing.T) {
	for _, b := range [][]byte{nil, {}, make([]byte, 0, 9)} {
		r := bits.NewReader(b)
		wantState(t, r, api.OK, 0, 0)
		wantBytes(t, r.Bytes(0), nil)
		r.Zeros(0)
		wantState(t, r, api.OK, 0, 0)
		if x := bits.Get[uint8](r); x != 0 {
			t.Errorf("Get of nothing = %d", x)
		}
		wantState(t, r, api.ErrShort, 0, 0)
		for _, breaker := range []func(r *bits.Reader){func(r *bits.Reader) { r.Bytes(1) }, func(r *bits.Reader) { r.Zeros(1) }} {
			r = bits.NewReader(b)
			breaker(r)
			wantState(t, r, api.ErrShort, 0, 0)
		}
	}
}

// P1.3: numbers of every width and of types of one's own.
func TestGetReadsTheHighestByteFirst(t *testing.T) {
	b := []byte{0xf1, 0xf2, 0xf3, 0xf4, 0xf5, 0xf6, 0xf7, 0xf8, 9}
	wantNumber(t, b, uint8(0xf1), 1)
	wantNumber(t, b, uint16(0xf1f2), 2)
	wantNumber(t, b, uint32(0xf1f2f3f4), 4)
	wantNumber(t, b, uint64(0xf1f2f3f4f5f6f7f8), 8)
	wantNumber(t, b, tiny(0xf1), 1)
	wantNumber(t, b, short(0xf1f2), 2)
	wantNumber(t, b, word(0xf1f2f3f4), 4)
	wantNumber(t, b, long(0xf1f2f3f4f5f6f7f8), 8)
}

// wantNumber reads a number off b, and off all that is shorter than it.
func wantNumber[T bits.Unsigned](t *testing.T, b []byte, want T, width int) {
	t.Helper()
	for n := range len(b) + 1 {
		r := bits.NewReader(b[:n])
		got := bits.Get[T](r)
		if n < width {
			if got != 0 {
				t.Errorf("Get[%T] of %d bytes = %x", want, n, got)
			}
			wantState(t, r, api.ErrShort, 0, 0)
			continue
		}
		if got != want {
			t.Errorf("Get[%T] = %x, want %x", want, got, want)
		}
		wantState(t, r, api.OK, width, n-width)
	}
}

// P1.3: the examples of the chapter, call by call.
func TestExamples(t *testing.T) {
	r := bits.NewReader([]byte{1, 2, 3, 4, 5})
	if x, y := bits.Get[uint16](r), bits.Get[uint16](r); x != 258 || y != 772 {
		t.Errorf("Get, Get = %d, %d", x, y)
	}
	wantState(t, r, api.OK, 4, 1)
	if x := bits.Get[uint16](r); x != 0 {
		t.Errorf("Get behind the end = %d", x)
	}
	wantState(t, r, api.ErrShort, 4, 0)

	r = bits.NewReader([]byte{1, 2, 3})
	wantBytes(t, r.Bytes(2), []byte{1, 2})
	wantBytes(t, r.Bytes(0), nil)
	wantState(t, r, api.OK, 2, 1)
	wantBytes(t, r.Bytes(-1), nil)
	wantState(t, r, api.ErrRange, 2, 0)
	if x := bits.Get[uint8](r); x != 0 {
		t.Errorf("Get of a broken reader = %d", x)
	}

	r = bits.NewReader([]byte{0, 0, 7, 0})
	r.Zeros(2)
	wantState(t, r, api.OK, 2, 2)
	r.Zeros(2)
	wantState(t, r, api.ErrRange, 2, 0)
}

// P1.3: n below 0, n of 0, n beyond the end, however far.
func TestBytesAtItsEdges(t *testing.T) {
	for _, c := range []struct {
		n           int
		want        []byte
		err         api.Errno
		place, left int
	}{
		{0, nil, api.OK, 1, 3},
		{1, []byte{2}, api.OK, 2, 2},
		{3, []byte{2, 3, 4}, api.OK, 4, 0},
		{4, nil, api.ErrShort, 1, 0},
		{math.MaxInt, nil, api.ErrShort, 1, 0},
		{-1, nil, api.ErrRange, 1, 0},
		{math.MinInt, nil, api.ErrRange, 1, 0},
	} {
		r := bits.NewReader([]byte{1, 2, 3, 4})
		bits.Get[uint8](r)
		wantBytes(t, r.Bytes(c.n), c.want)
		wantState(t, r, c.err, c.place, c.left)
	}
}

// P1.3: the order of the errors of Zeros, and the place that it leaves.
func TestZerosAtItsEdges(t *testing.T) {
	for _, c := range []struct {
		b           []byte
		n           int
		err         api.Errno
		place, left int
	}{
		{[]byte{9, 0, 0, 0}, 0, api.OK, 1, 3},
		{[]byte{9, 7, 0, 0}, 0, api.OK, 1, 3},
		{[]byte{9, 0, 0, 7}, 2, api.OK, 3, 1},
		{[]byte{9, 0, 0, 0}, 3, api.OK, 4, 0},
		{[]byte{9, 7, 8, 0}, 3, api.ErrRange, 1, 0},
		{[]byte{9, 0, 7, 8}, 3, api.ErrRange, 2, 0},
		{[]byte{9, 0, 0, 7}, 3, api.ErrRange, 3, 0},
		{[]byte{9, 0, 0, 128}, 3, api.ErrRange, 3, 0},
		{[]byte{9, 0, 7, 0}, 4, api.ErrShort, 1, 0}, // too few bytes tell ahead of the 7
		{[]byte{9, 7, 0, 0}, math.MaxInt, api.ErrShort, 1, 0},
		{[]byte{9, 0, 7, 0}, -1, api.ErrRange, 1, 0}, // n below 0 looks at no byte
		{[]byte{9, 0, 7, 0}, math.MinInt, api.ErrRange, 1, 0},
		{[]byte{9}, -1, api.ErrRange, 1, 0},
		{[]byte{9}, 1, api.ErrShort, 1, 0},
	} {
		r := bits.NewReader(c.b)
		bits.Get[uint8](r)
		r.Zeros(c.n)
		wantState(t, r, c.err, c.place, c.left)
	}
}

// P1.2, P1.4: what broke a reader holds for ever, whatever is called then.
func TestBrokenForEver(t *testing.T) {
	for _, c := range []struct {
		name    string
		breaker func(r *bits.Reader)
		err     api.Errno
		place   int
	}{
		{"Get", func(r *bits.Reader) { bits.Get[uint64](r) }, api.ErrShort, 1},
		{"Bytes short", func(r *bits.Reader) { r.Bytes(7) }, api.ErrShort, 1},
		{"Bytes below 0", func(r *bits.Reader) { r.Bytes(-1) }, api.ErrRange, 1},
		{"Zeros short", func(r *bits.Reader) { r.Zeros(7) }, api.ErrShort, 1},
		{"Zeros below 0", func(r *bits.Reader) { r.Zeros(-1) }, api.ErrRange, 1},
		{"Zeros not zero", func(r *bits.Reader) { r.Zeros(6) }, api.ErrRange, 3},
	} {
		r := bits.NewReader([]byte{1, 0, 0, 2, 0, 3, 4})
		bits.Get[uint8](r)
		c.breaker(r)
		for range 3 {
			wantState(t, r, c.err, c.place, 0)
			wantNothing(t, c.name, r)
		}
		wantState(t, r, c.err, c.place, 0)
	}
}

// wantNothing calls all that a reader has.
func wantNothing(t *testing.T, name string, r *bits.Reader) {
	t.Helper()
	a, b, c, d := bits.Get[uint8](r), bits.Get[short](r), bits.Get[uint32](r), bits.Get[uint64](r)
	if a != 0 || b != 0 || c != 0 || d != 0 {
		t.Errorf("%s: Gets of a broken reader = %d, %d, %d, %d", name, a, b, c, d)
	}
	for _, n := range []int{0, 1, 2, -1, 99, math.MinInt, math.MaxInt} {
		if x := r.Bytes(n); len(x) != 0 {
			t.Errorf("%s: Bytes(%d) of a broken reader = %x", name, n, x)
		}
		r.Zeros(n)
	}
}

// P1.6: neither writing into an answer, nor into its spare room, nor appending to it is seen anywhere.
func TestBytesAnswersNewMemory(t *testing.T) {
	r := bits.NewReader([]byte{1, 2, 3, 4, 5, 6})
	none := r.Bytes(0)
	fill(none)
	none = append(none, 91)
	first := r.Bytes(2)
	fill(first)
	first = append(first, 92, 93)
	second := r.Bytes(2)
	wantBytes(t, second, []byte{3, 4})
	fill(first)
	wantBytes(t, second, []byte{3, 4})
	second = append(second, 94)
	if x := bits.Get[uint8](r); x != 5 {
		t.Errorf("Get = %d, want 5", x)
	}
	last := r.Bytes(1)
	wantBytes(t, last, []byte{6})
	fill(last)
	wantBytes(t, none, []byte{91})
	wantBytes(t, first, []byte{0xee, 0xee, 0xee, 0xee})
	wantBytes(t, second, []byte{3, 4, 94})
	wantState(t, r, api.OK, 6, 0)
}

// P1.6: what is read behind an answer does not change it, by no kind of call.
func TestAnswersStayAsTheyWere(t *testing.T) {
	r := bits.NewReader([]byte{1, 2, 0, 0, 5})
	first := r.Bytes(2)
	r.Zeros(2)
	bits.Get[uint8](r)
	bits.Get[uint8](r)
	wantBytes(t, first, []byte{1, 2})
}

// P0.4: two readers of the same bytes never see one another.
func TestReadersStandAlone(t *testing.T) {
	b := []byte{1, 2, 3}
	r, s := bits.NewReader(b), bits.NewReader(b)
	fill(r.Bytes(3))
	r.Bytes(-1)
	wantState(t, s, api.OK, 0, 3)
	wantBytes(t, s.Bytes(3), []byte{1, 2, 3})
}

// P1.7: numbers come back in their order, and cut off anywhere just the whole ones do.
func TestNumbersComeBack(t *testing.T) {
	b := []byte(nil)
	b = bits.Put(b, uint8(0xa1))
	b = bits.Put(b, uint64(math.MaxUint64))
	b = bits.Put(b, short(0xb1b2))
	b = bits.Put(b, uint32(0))
	b = bits.Put(b, tiny(0xc1))
	b = bits.Put(b, long(1)<<63)
	b = bits.Put(b, uint16(1))
	b = bits.Put(b, word(0xd1d2d3d4))
	want := []uint64{0xa1, math.MaxUint64, 0xb1b2, 0, 0xc1, 1 << 63, 1, 0xd1d2d3d4}
	widths := []int{1, 8, 2, 4, 1, 8, 2, 4}
	for n := range len(b) + 1 {
		r := bits.NewReader(b[:n])
		got := []uint64{
			uint64(bits.Get[uint8](r)), bits.Get[uint64](r), uint64(bits.Get[short](r)), uint64(bits.Get[uint32](r)),
			uint64(bits.Get[tiny](r)), uint64(bits.Get[long](r)), uint64(bits.Get[uint16](r)), uint64(bits.Get[word](r)),
		}
		place := 0
		for i, w := range widths {
			if place+w > n {
				wantState(t, r, api.ErrShort, place, 0)
				if slices.ContainsFunc(got[i:], func(x uint64) bool { return x != 0 }) {
					t.Errorf("cut at %d: behind the cut %x", n, got[i:])
				}
				break
			}
			if got[i] != want[i] {
				t.Errorf("cut at %d: number %d = %x, want %x", n, i, got[i], want[i])
			}
			place += w
		}
		if n == len(b) {
			wantState(t, r, api.OK, n, 0)
		}
	}
}
