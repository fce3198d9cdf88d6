package window_test

import (
	"testing"

	"culvert/window"
)

// The examples of the chapter, one behind the other.
func TestExamples(t *testing.T) {
	w := newWindow(t, 5, 64)
	is := func(what string, got, want bool) {
		t.Helper()
		if got != want {
			t.Errorf("%s = %v", what, got)
		}
	}
	wantTop(t, w, 0, false)
	is("Takes(4)", w.Takes(4), false)
	is("Takes(5)", w.Takes(5), true)
	is("Mark(4)", w.Mark(4), false)

	is("Mark(5)", w.Mark(5), true)
	is("Mark(5)", w.Mark(5), false)
	is("Takes(5)", w.Takes(5), false)
	wantTop(t, w, 5, true)

	is("Mark(70)", w.Mark(70), true)
	is("Takes(6)", w.Takes(6), false)
	is("Takes(7)", w.Takes(7), true)
	is("Mark(6)", w.Mark(6), false)

	is("Mark(7)", w.Mark(7), true)
	is("Mark(7)", w.Mark(7), false)
	wantTop(t, w, 70, true)
	if w.Floor() != 5 {
		t.Errorf("Floor() = %d", w.Floor())
	}

	is("Mark(the last one)", w.Mark(18446744073709551615), true)
	is("Takes(the last one less 64)", w.Takes(18446744073709551551), false)
	is("Takes(the last one less 63)", w.Takes(18446744073709551552), true)
	is("Takes(70)", w.Takes(70), false)

	for _, width := range []int{0, 63, 65, 1088, -64} {
		is("New is nil", window.New(0, width) == nil, true)
	}

	w = newWindow(t, 18446744073709551615, 1024)
	is("Takes(the one ahead of the last)", w.Takes(18446744073709551614), false)
	is("Mark(the last one)", w.Mark(18446744073709551615), true)
}
