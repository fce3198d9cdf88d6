package wal_test

import (
	"math"
	"testing"

	"culvert/wal"
)

// P12.4, P12.5: how many sectors a string has, and a transaction needs.
func TestNeedAndPieces(t *testing.T) {
	for _, c := range []struct{ n, need, pieces int }{
		{math.MinInt, 0, 0}, {math.MinInt + 1, 0, 0}, {-481, 0, 0}, {-480, 0, 0}, {-479, 0, 0}, {-1, 0, 0},
		{0, 0, 0}, {1, 1, 1}, {2, 1, 1}, {479, 1, 1}, {480, 1, 1},
		{481, 3, 2}, {482, 3, 2}, {959, 3, 2}, {960, 3, 2}, {961, 4, 3}, {1440, 4, 3}, {1441, 5, 4},
		{4319, 10, 9}, {4320, 10, 9}, {4321, 11, 10}, {4799, 11, 10}, {4800, 11, 10},
		{4801, 0, 11}, {5280, 0, 11}, {5281, 0, 12}, {1 << 31, 0, 4473925}, {1<<32 - 1, 0, 8947849},
		{math.MaxInt - 480, 0, 19215358410114116}, {math.MaxInt - 479, 0, 19215358410114116},
		{math.MaxInt - 1, 0, 19215358410114117}, {math.MaxInt, 0, 19215358410114117},
	} {
		if got := wal.Need(c.n); got != c.need {
			t.Errorf("Need(%d) = %d, want %d", c.n, got, c.need)
		}
		if got := wal.Pieces(c.n); got != c.pieces {
			t.Errorf("Pieces(%d) = %d, want %d", c.n, got, c.pieces)
		}
	}
}

// P12.4, P12.5: all lengths of transactions and of states of some devices.
func TestNeedAndPiecesOfMany(t *testing.T) {
	for n := -1000; n <= 100000; n++ {
		if got, want := wal.Need(n), plainNeed(n); got != want {
			t.Errorf("Need(%d) = %d, want %d", n, got, want)
		}
		if got, want := wal.Pieces(n), plainPieces(n); got != want {
			t.Errorf("Pieces(%d) = %d, want %d", n, got, want)
		}
	}
}

// P12.5: the edges of whole pieces, up to the greatest int.
func TestPiecesAtTheEdges(t *testing.T) {
	for shift := range 55 {
		for _, k := range []int{1<<shift - 1, 1 << shift, 1<<shift + 1} {
			if k < 1 || k > math.MaxInt/480 {
				continue
			}
			for _, c := range [][2]int{{k*480 - 479, k}, {k*480 - 1, k}, {k * 480, k}, {k*480 + 1, k + 1}} {
				if got := wal.Pieces(c[0]); got != c[1] {
					t.Errorf("Pieces(%d) = %d, want %d", c[0], got, c[1])
				}
			}
		}
	}
}
