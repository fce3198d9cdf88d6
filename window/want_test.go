package window_test

import (
	"testing"

	"culvert/window"
)

// t.Helper is asked only where a test fails: it takes much longer than what is tested.

// both is a window with its plain form beside it.
type both struct {
	w     *window.Window
	p     *plain
	marks []uint64 // all that Mark was asked
}

func newWindow(t *testing.T, floor uint64, width int) *window.Window {
	t.Helper()
	w := window.New(floor, width)
	if w == nil {
		t.Fatalf("New(%d, %d) = nil", floor, width)
	}
	return w
}

func newBoth(t *testing.T, floor uint64, width int) *both {
	t.Helper()
	return &both{w: newWindow(t, floor, width), p: newPlain(floor, width)}
}

func (b *both) fail(t *testing.T, what string, c uint64, got any) {
	t.Helper()
	top, ok := b.p.top()
	t.Fatalf("%s(%d) = %v at the floor %d, the width %d, the top %d, %v; plainly it is refused by %q; the last numbers that Mark was asked: %d", what, c, got, b.p.floor, b.p.width, top, ok, b.p.refusals(c), b.marks[max(0, len(b.marks)-20):])
}

func (b *both) takes(t *testing.T, c uint64) {
	if got := b.w.Takes(c); got != b.p.takes(c) {
		t.Helper()
		b.fail(t, "Takes", c, got)
	}
}

// mark asks Mark, and what hangs on it at once.
func (b *both) mark(t *testing.T, c uint64) {
	got, want := b.w.Mark(c), b.p.takes(c)
	if got != want {
		t.Helper()
		b.fail(t, "Mark", c, got)
	}
	b.p.mark(c)
	b.marks = append(b.marks, c)
	b.ends(t)
	b.takes(t, c)
}

// ends asks the top and the floor.
func (b *both) ends(t *testing.T) {
	top, ok := b.w.Top()
	if wantTop, wantOk := b.p.top(); top != wantTop || ok != wantOk {
		t.Helper()
		t.Fatalf("Top() = %d, %v, want %d, %v; the last numbers that Mark was asked: %d", top, ok, wantTop, wantOk, b.marks[max(0, len(b.marks)-20):])
	}
	if floor := b.w.Floor(); floor != b.p.floor {
		t.Helper()
		t.Fatalf("Floor() = %d, want %d", floor, b.p.floor)
	}
}

// look asks all that can be asked without a change, of the numbers around the top, as far as the ring may reach and beyond, around the floor, and at the edges.
func (b *both) look(t *testing.T) {
	t.Helper()
	b.ends(t)
	top, _ := b.p.top()
	for _, c := range between(up(top, -int64(b.p.width)-200), up(top, int64(b.p.width)+200)) {
		b.takes(t, c)
	}
	for _, c := range append(edgeNumbers(), around(b.p.floor, 70)...) {
		b.takes(t, c)
	}
	b.ends(t)
}

// glance looks at few numbers: those by which an error is likeliest told.
func (b *both) glance(t *testing.T) {
	t.Helper()
	b.ends(t)
	top, _ := b.p.top()
	width := int64(b.p.width)
	for _, more := range []int64{-width - 65, -width - 64, -width - 1, -width, -width + 1, -width + 63, -width + 64, -width + 65, -65, -64, -63, -1, 0, 1, 63, 64, 65, width, width + 64} {
		b.takes(t, up(top, more))
	}
}

// wantTop: just this top.
func wantTop(t *testing.T, w *window.Window, top uint64, ok bool) {
	if gotTop, gotOk := w.Top(); gotTop != top || gotOk != ok {
		t.Helper()
		t.Fatalf("Top() = %d, %v, want %d, %v", gotTop, gotOk, top, ok)
	}
}

func wantTakes(t *testing.T, w *window.Window, c uint64, want bool) {
	if got := w.Takes(c); got != want {
		top, _ := w.Top()
		t.Helper()
		t.Fatalf("Takes(%d) = %v at the floor %d and the top %d", c, got, w.Floor(), top)
	}
}

// wantMark: Takes tells it, then Mark, and what was taken is refused at once.
func wantMark(t *testing.T, w *window.Window, c uint64, want bool) {
	wantTakes(t, w, c, want)
	if got := w.Mark(c); got != want {
		top, _ := w.Top()
		t.Helper()
		t.Fatalf("Mark(%d) = %v at the floor %d and the top %d", c, got, w.Floor(), top)
	}
	wantTakes(t, w, c, false)
}
