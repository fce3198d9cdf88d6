package audit_test

import (
	"bytes"
	"fmt"
	"slices"
	"testing"

	"culvert/api"
)

// P24.2: the lines stand in the order of the chapter: the superblocks, the sectors rising through both regions and behind them, the state.
func TestOrder(t *testing.T) {
	t.Parallel()
	junk := bytes.Repeat([]byte{0xEE}, size)
	for _, n := range []int{32, 33, 64, 1001, 8191, 8192} {
		m := zeros(n)
		want := []string{"super 0", "super 1"}
		m[0], m[1] = junk, junk
		for i := 2; i < n; i++ {
			m[i] = junk
			want = append(want, fmt.Sprintf("sector %d", i))
		}
		want = append(want, "state 110")
		wantLines(t, fmt.Sprintf("%d sectors of junk", n), m.bytes(), want...)
	}
}

// P24.2: any of the lines beside one another, and no other ones.
func TestLinesTogether(t *testing.T) {
	t.Parallel()
	junk := bytes.Repeat([]byte{0xEE}, size)
	boots := setBytes(rowsOf(nil, nil, 3)...)
	strange := setBytes(rowsOf([]api.Peer{peerOf(1, key(1))}, nil, 3)...)
	spots := []struct {
		at   int
		line string
	}{{0, "super 0"}, {2, "sector 2"}, {9, "sector 9"}, {10, "sector 10"}, {16, "sector 16"}, {21, "sector 21"}, {31, "sector 31"}, {32, "sector 32"}}
	for stateLine, m := range map[string]image{
		"":          logged(33, 7, 40, boots),
		"state 114": logged(33, 7, 40, strange),
		"state 113": logged(33, 7, maxSeq, nil, boots),
	} {
		for mask := range 1 << len(spots) {
			hit := m.clone()
			var want []string
			for i, spot := range spots {
				if mask>>i&1 > 0 {
					hit[spot.at] = junk
					want = append(want, spot.line)
				}
			}
			if stateLine != "" {
				want = append(want, stateLine)
			}
			if got := checkOf(hit.bytes()); !got.same(checked{lines: want}) {
				t.Fatalf("Check = %q, want %q", got.lines, want)
			}
		}
	}
}

// P24.2: lines of both regions, whichever of the two is told of more: of one region alone, of few sectors of the one and many of the other.
func TestLinesOfRegions(t *testing.T) {
	t.Parallel()
	n := 8192
	room := (n - 2) / 2
	boots := setBytes(rowsOf(nil, nil, 3)...)
	m := logged(n, 1, 1, boots) // in the region 1
	for what, spots := range map[string][]int{
		"the region 0 alone":            {2, 3, 4, room, room + 1},
		"the region 1 alone":            {2 + room + 1, 2 + room + 2, n - 2, n - 1},
		"one of the region 0":           slices.Concat([]int{room + 1}, span(2+room+1, n)),
		"one of the region 1":           slices.Concat(span(2, 2+room), []int{n - 1}),
		"every second one":              slices.DeleteFunc(span(2, n), func(i int) bool { return i%2 > 0 || i == 2+room }),
		"the ends of both":              {2, 1 + room, 2 + room + 1, n - 1},
		"none":                          {},
		"all but that of the log":       slices.DeleteFunc(span(2, n), func(i int) bool { return i == 2+room }),
		"numbers of one to four digits": {9, 10, 99, 100, 999, 1000, 8191},
	} {
		hit := m.clone()
		var want []string
		for _, i := range spots {
			hit[i] = turned(hit[i], i%size, 0x40)
			want = append(want, fmt.Sprintf("sector %d", i))
		}
		wantLines(t, what, hit.bytes(), want...)
	}
}

func span(from, to int) []int {
	var out []int
	for i := from; i < to; i++ {
		out = append(out, i)
	}
	return out
}
