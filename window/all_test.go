package window_test

import "testing"

// few are numbers around the edges of a window of the least width, and far away.
func few() []uint64 {
	return []uint64{0, 1, 62, 63, 64, 65, 127, 128, 191, 192, 200, last - 64, last - 63, last}
}

// P18.2 to P18.4: all orders of up to four calls of Mark, of a few numbers, at the least width, at floors that part them; and behind each all that may be told of these numbers.
func TestAllShortHistories(t *testing.T) {
	for _, floor := range []uint64{0, 1, 63, 128, last - 63} {
		count := 0
		var walk func(marks []uint64, left int)
		walk = func(marks []uint64, left int) {
			if left > 0 {
				for _, c := range few() {
					walk(append(marks, c), left-1)
				}
				return
			}
			count++
			b := newBoth(t, floor, 64)
			for _, c := range marks {
				b.mark(t, c)
			}
			for _, c := range few() {
				b.takes(t, c)
			}
		}
		for left := range 5 {
			walk(nil, left)
		}
		if count != 1+14+14*14+14*14*14+14*14*14*14 {
			t.Errorf("%d histories", count)
		}
	}
}

// next is a number that is likely to tell something: near the top, near the ends of what is in reach, near the floor, or anywhere.
func (s sampler) next(b *both) uint64 {
	top, ok := b.p.top()
	if !ok {
		top = b.p.floor
	}
	width := int64(b.p.width)
	switch s.IntN(16) {
	case 0:
		return up(top, -width+s.Int64N(5)-2)
	case 1:
		return up(b.p.floor, s.Int64N(130)-65)
	case 2, 3:
		return up(top, 1+s.Int64N(3))
	case 4:
		return up(top, s.Int64N(2*width+200))
	case 5:
		return up(top, -s.Int64N(2*width+200))
	case 6:
		if len(b.marks) > 0 {
			return b.marks[max(0, len(b.marks)-1-s.IntN(50))]
		}
	}
	return up(top, 3-s.Int64N(width))
}

// alone counts by what numbers are refused, each by nothing else, and how many are not.
type alone map[string]int

func (a alone) see(p *plain, c uint64) {
	switch why := p.refusals(c); len(why) {
	case 0:
		if top, ok := p.top(); !ok {
			a["first"]++
		} else if c > top {
			a["above the top"]++
		} else {
			a["below the top"]++
		}
	case 1:
		a[why[0]]++
	}
}

func (a alone) wantAll(t *testing.T, least int) {
	t.Helper()
	for _, why := range []string{"below the floor", "taken", "out of reach", "first", "above the top", "below the top"} {
		if a[why] < least {
			t.Errorf("%s: asked only %d times", why, a[why])
		}
	}
}

// P18.2 to P18.4: long sampled histories at each width and floor.
func TestHistories(t *testing.T) {
	s, seen := newSampler(3), alone{}
	for _, width := range widths() {
		for _, floor := range append(edgeFloors(), s.Uint64(), s.Uint64()>>20) {
			b := newBoth(t, floor, width)
			for i := range 600 {
				c := s.next(b)
				seen.see(b.p, c)
				if s.IntN(4) == 0 {
					b.takes(t, c)
				} else {
					b.mark(t, c)
				}
				if i%150 == 0 {
					b.look(t)
				}
			}
			b.look(t)
		}
	}
	seen.wantAll(t, 200)
}

// P18.2 to P18.4: any numbers of any size, with leaps of any length between.
func TestAnyNumbers(t *testing.T) {
	s, seen := newSampler(4), alone{}
	for i := range 4000 {
		b := newBoth(t, s.Uint64()>>(1+s.IntN(64)), pick(s, widths()))
		for range 40 {
			c := s.Uint64() >> s.IntN(64)
			if i%2 == 0 {
				top, _ := b.p.top()
				c = max(c, top+(last-top)>>(1+s.IntN(63)))
			}
			if s.IntN(2) == 0 {
				c = s.next(b)
			}
			seen.see(b.p, c)
			b.mark(t, c)
		}
		b.glance(t)
	}
	seen.wantAll(t, 500)
}
