package bits_test

import (
	"bytes"
	"testing"

	"culvert/api"
	"culvert/bits"
)

// model is a reader as the table of P1.3 tells it, over all of its bytes.
type model struct {
	b     []byte
	place int
	err   api.Errno
}

// next answers the next n bytes, or breaks the model; zeros asks that they are all 0.
func (m *model) next(n int, zeros bool) []byte {
	if m.err != api.OK {
		return nil
	}
	if n < 0 {
		m.err = api.ErrRange
		return nil
	}
	if len(m.b)-m.place < n {
		m.err = api.ErrShort
		return nil
	}
	out := m.b[m.place : m.place+n]
	if zeros {
		for i, x := range out {
			if x != 0 {
				m.err = api.ErrRange
				m.place += i
				return nil
			}
		}
	}
	m.place += n
	return out
}

func (m *model) left() int {
	if m.err != api.OK {
		return 0
	}
	return len(m.b) - m.place
}

// call is one call, made of a reader and of a model; it answers both answers as bytes.
type call struct {
	name string
	do   func(r *bits.Reader, m *model) (got, want []byte)
}

func getCall[T bits.Unsigned](name string, width int) call {
	return call{name, func(r *bits.Reader, m *model) (got, want []byte) {
		want = m.next(width, false)
		if want == nil {
			want = make([]byte, width)
		}
		x := uint64(bits.Get[T](r))
		got = make([]byte, width)
		for i := range got {
			got[width-1-i] = byte(x >> (8 * i))
		}
		return got, want
	}}
}

func bytesCall(n int) call {
	return call{"Bytes", func(r *bits.Reader, m *model) (got, want []byte) {
		return r.Bytes(n), m.next(n, false)
	}}
}

func zerosCall(n int) call {
	return call{"Zeros", func(r *bits.Reader, m *model) (got, want []byte) {
		r.Zeros(n)
		m.next(n, true)
		return nil, nil
	}}
}

func allCalls() []call {
	return []call{
		getCall[uint8]("Get 1", 1), getCall[short]("Get 2", 2), getCall[uint32]("Get 4", 4), getCall[long]("Get 8", 8),
		bytesCall(-1), bytesCall(0), bytesCall(1), bytesCall(3),
		zerosCall(-1), zerosCall(0), zerosCall(1), zerosCall(2), zerosCall(4),
	}
}

// P1.2 to P1.5: every three calls, of all bytes of small lengths with zeros and others among them, hold against the model.
func TestAllShortRunsAgainstTheModel(t *testing.T) {
	calls := allCalls()
	for n := range 10 {
		for pattern := range 1 << min(n, 5) {
			b := make([]byte, n)
			for i := range b {
				if pattern>>min(i, 4)&1 == 1 {
					b[i] = byte(200 + i)
				}
			}
			for _, x := range calls {
				for _, y := range calls {
					for _, z := range calls {
						runAgainstModel(t, b, []call{x, y, z})
					}
				}
			}
		}
	}
}

func runAgainstModel(t *testing.T, b []byte, calls []call) {
	r, m := bits.NewReader(b), &model{b: b}
	for i, c := range calls {
		got, want := c.do(r, m)
		e, place := r.Err()
		if !bytes.Equal(got, want) || e != m.err || place != m.place || r.Left() != m.left() {
			t.Fatalf("of %x, call %d (%s): answer %x, Err (%d, %d), Left %d; want %x, (%d, %d), %d",
				b, i, c.name, got, e, place, r.Left(), want, m.err, m.place, m.left())
		}
	}
}
