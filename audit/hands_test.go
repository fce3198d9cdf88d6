package audit_test

import (
	"bytes"
	"sync"
	"testing"

	"culvert/audit"
)

// P24.3: several hands that ask about the same bytes at once: each is answered as it would be alone. (.ci/run runs the tests of hands under the race detector too, where it can be run.)
func TestHandsSameBytes(t *testing.T) {
	t.Parallel()
	for what, b := range someBytes(t) {
		wantCheck, wantState := plainCheck(b), plainState(b)
		var all sync.WaitGroup
		for hand := range 8 {
			all.Go(func() {
				for i := range 4 {
					if (hand+i)%2 == 0 {
						if got := checkOf(b); !got.same(wantCheck) {
							t.Errorf("%s: Check = %v, want %v", what, got, wantCheck)
						}
					} else if got := stateOf(b); !got.same(wantState) {
						t.Errorf("%s: State = %v, want %v", what, got, wantState)
					}
				}
			})
		}
		all.Wait()
	}
}

// P24.3, Ways: when a call answers, none of its goroutines reads the bytes any more, nor writes what is answered: both are the caller's. (It is the race detector that would tell.)
func TestHandsHaveEnded(t *testing.T) {
	t.Parallel()
	for what, b := range someBytes(t) {
		want := plainCheck(b)
		own := bytes.Clone(b)
		for range 4 {
			lines, e := audit.Check(own)
			if got := (checked{lines, e}); !got.same(want) {
				t.Errorf("%s: Check = %v, want %v", what, got, want)
			}
			marked(lines, "over")
			clear(own)
			copy(own, b)
			audit.State(own)
			clear(own)
			copy(own, b)
		}
	}
}

// P24.2, Ways: however the two goroutines run, the lines are told in their order: asked again and again, with much to do in one region and little in the other.
func TestHandsOrder(t *testing.T) {
	t.Parallel()
	m := imageOf(bytes.Repeat([]byte{0xEE}, 1000*size))
	for i := range m {
		if i > 2+m.room() && i < 990 || i == 0 {
			m[i] = make([]byte, size)
		}
	}
	b := m.bytes()
	want := plainCheck(b)
	if len(want.lines) < 400 {
		t.Fatalf("only %d lines", len(want.lines))
	}
	for range 100 {
		if got := checkOf(b); !got.same(want) {
			t.Fatalf("Check = %q, want %q", got.lines, want.lines)
		}
	}
}
