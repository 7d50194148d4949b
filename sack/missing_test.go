package sack_test

import (
	"math"
	"math/rand"
	"slices"
	"testing"
)

// P12.1: by hand: from is one of them, to isn't, and what is no chunk isn't missing.
func TestMissing(t *testing.T) {
	m, _ := with(t, 70, but(70, 0, 3, 4, 8, 63, 64, 69)...)
	for _, c := range []struct {
		from, to int
		want     []int
	}{
		{0, 70, []int{0, 3, 4, 8, 63, 64, 69}},
		{0, 1, []int{0}}, {0, 0, nil}, {1, 3, nil}, {1, 4, []int{3}}, {3, 5, []int{3, 4}}, {4, 5, []int{4}}, {3, 3, nil}, {4, 3, nil}, {69, 3, nil},
		{5, 63, []int{8}}, {5, 64, []int{8, 63}}, {63, 65, []int{63, 64}}, {64, 65, []int{64}}, {65, 69, nil}, {65, 70, []int{69}}, {69, 70, []int{69}},
		{-1, 0, nil}, {-1, 1, []int{0}}, {-5, 4, []int{0, 3}}, {-5, -1, nil}, {-1, -5, nil},
		{69, 71, []int{69}}, {65, 200, []int{69}}, {70, 71, nil}, {70, 70, nil}, {71, 70, nil}, {71, 300, nil}, {300, 0, nil},
		{math.MinInt, math.MaxInt, []int{0, 3, 4, 8, 63, 64, 69}},
		{math.MaxInt, math.MinInt, nil}, {math.MinInt, math.MinInt, nil}, {math.MaxInt, math.MaxInt, nil},
		{math.MinInt, 0, nil}, {math.MinInt, 4, []int{0, 3}}, {64, math.MaxInt, []int{64, 69}}, {70, math.MaxInt, nil},
		{1 << 32, 1<<32 + 70, nil}, {-1 << 32, 1, []int{0}}, {0, 1<<32 + 1, []int{0, 3, 4, 8, 63, 64, 69}},
	} {
		if got := m.Missing(c.from, c.to); !slices.Equal(got, c.want) {
			t.Errorf("%d to %d: %v, not %v", c.from, c.to, got, c.want)
		}
	}
}

// P12.1: none where all are there, all where none is.
func TestMissingOfAllOrNone(t *testing.T) {
	for _, n := range sizes() {
		m, _ := empty(t, n)
		if got := m.Missing(math.MinInt, math.MaxInt); !slices.Equal(got, upTo(n)) {
			t.Errorf("of %d: %v", n, got)
		}
		m, _ = with(t, n, upTo(n)...)
		if got := m.Missing(math.MinInt, math.MaxInt); len(got) != 0 {
			t.Errorf("of %d: %v", n, got)
		}
	}
}

// P12.1: from and to at all edges, of drawn maps.
func TestMissingOfAnyRange(t *testing.T) {
	source := rand.New(rand.NewSource(121))
	for _, n := range sizes() {
		m, j := drawn(t, source, n)
		ends := append(edges(), n-1, n, n+1, j.base()-1, j.base(), j.base()+1)
		for _, from := range ends {
			for _, to := range ends {
				if got := m.Missing(from, to); !slices.Equal(got, j.missing(from, to)) {
					t.Fatalf("%s: %d to %d: %v", told(j), from, to, got)
				}
			}
		}
		hold(t, m, j)
	}
}

// P12.1, and rule 5: each list is new memory, its spare room too.
func TestMissingAnswersNewLists(t *testing.T) {
	m, j := with(t, 130, 2, 64, 129)
	one, two := m.Missing(0, 130), m.Missing(0, 130)
	whole := one[:cap(one)]
	for i := range whole {
		whole[i] = -1
	}
	if !slices.Equal(two, j.missing(0, 130)) {
		t.Errorf("the other list: %v", two)
	}
	hold(t, m, j)
}
