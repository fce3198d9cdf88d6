// Package bits: numbers as bytes, and a reader that says where it failed: see ../shared/doc/01-bits.md.
package bits

import (
	"slices"

	"culvert/api"
)

// Unsigned are the widths of numbers.
type Unsigned interface {
	~uint8 | ~uint16 | ~uint32 | ~uint64
}

// width tells in how many bytes a number of the type T stands.
func width[T Unsigned]() int {
	n := 0
	// Widened first: a uint8 can't be shifted by its whole width.
	for rest := uint64(^T(0)); rest != 0; rest >>= 8 {
		n++
	}
	return n
}

// Put lays a number behind b, highest byte first.
func Put[T Unsigned](b []byte, x T) []byte {
	// Not append: it would write into the spare room of b, which is its owner's.
	out := make([]byte, len(b)+width[T]())
	copy(out, b)
	rest := uint64(x)
	for i := len(out) - 1; i >= len(b); i-- {
		out[i] = byte(rest)
		rest >>= 8
	}
	return out
}

// Reader reads a list of bytes from its beginning on.
type Reader struct {
	left  []byte // none once the reader is broken
	place int
	err   api.Errno // what broke the reader; OK while it is whole
}

// NewReader makes a reader.
func NewReader(b []byte) *Reader {
	return &Reader{left: slices.Clone(b)}
}

// Get reads a number.
func Get[T Unsigned](r *Reader) T {
	var x uint64
	for _, b := range r.take(width[T]()) {
		x = x<<8 | uint64(b)
	}
	return T(x)
}

// Bytes reads n bytes.
func (r *Reader) Bytes(n int) []byte {
	return r.take(n)
}

// Zeros reads n bytes that must be zero.
func (r *Reader) Zeros(n int) {
	start := r.place
	for i, b := range r.take(n) {
		if b != 0 {
			r.place = start + i
			r.fail(api.ErrRange)
			return
		}
	}
}

// Left tells how many bytes are unread.
func (r *Reader) Left() int { return len(r.left) }

// Err tells the first error and its place; without one OK and the reader's place.
func (r *Reader) Err() (api.Errno, int) { return r.err, r.place }

// take cuts the next n bytes off what is left, or breaks the reader.
func (r *Reader) take(n int) []byte {
	switch {
	case r.err != api.OK:
		return nil
	case n < 0:
		r.fail(api.ErrRange)
		return nil
	case n > len(r.left):
		r.fail(api.ErrShort)
		return nil
	}
	// The third index: who appends to what was taken must not reach what is left.
	taken := r.left[:n:n]
	r.left = r.left[n:]
	r.place += n
	return taken
}

// fail breaks the reader where it stands; what was left will never be read.
func (r *Reader) fail(e api.Errno) {
	r.err = e
	r.left = nil
}
