package sack_test

import (
	"math"
	"math/rand"
	"slices"
	"strings"
	"testing"

	"signpost/sack"
)

// all: so many bytes, all of whose bits are 1.
func all(n int) string { return strings.Repeat("\xff", n) }

// expectMerged holds a merge against the judge's, and that it is done: done again, nothing is new.
func expectMerged(t *testing.T, m *sack.Map, j judge, base int, bits string) {
	t.Helper()
	ahead := told(j)
	want := j.merge(base, bits)
	if got := m.Merge(base, bits); got != want {
		t.Fatalf("%s: base %d, %.40x (%d bytes): %d, not %d", ahead, base, bits, len(bits), got, want)
	}
	hold(t, m, j)
	if got := m.Merge(base, bits); got != 0 {
		t.Fatalf("%s: base %d, %.40x (%d bytes): again %d", ahead, base, bits, len(bits), got)
	}
	hold(t, m, j)
}

// P12.2: by hand, of 20 chunks of which 1, 4 and 10 are there.
func TestMerge(t *testing.T) {
	for _, c := range []struct {
		base  int
		bits  string
		fresh []int
	}{
		{0, "", nil},
		{1, "", []int{0}},
		{2, "", []int{0}},
		{5, "", []int{0, 2, 3}},
		{0, "\x00", nil},
		{0, "\x01", nil}, // chunk 1, which is there
		{0, "\x02", []int{2}},
		{0, "\xff", []int{2, 3, 5, 6, 7, 8}},
		{0, "\x00\x01", []int{9}},
		{0, "\x80\x02", []int{8}},
		{3, "\x01", []int{0, 2}},
		{3, "\x03", []int{0, 2, 5}},
		{3, "\x00\x80", []int{0, 2, 19}},
		{3, "\x00\x80\xff\xff", []int{0, 2, 19}},
		{18, "", but(18, 1, 4, 10)},
		{18, "\xfe\xff", but(18, 1, 4, 10)},
		{18, "\x01", but(20, 1, 4, 10, 18)},
		{19, "", but(19, 1, 4, 10)},
		{19, all(9), but(19, 1, 4, 10)},
		{20, "", but(20, 1, 4, 10)},
		{20, all(9), but(20, 1, 4, 10)},
		{21, "", but(20, 1, 4, 10)},
		{1000, all(9), but(20, 1, 4, 10)},
		{-1, "", nil},
		{-1, "\x01", []int{0}},
		{-1, "\x0d", []int{0, 2, 3}},
		{-2, "\x01", nil},
		{-2, "\x02", []int{0}},
		{-8, "\x80", []int{0}},
		{-8, "\x7f", nil},
		{-9, "\xff\x01", []int{0}},
		{-9, "\xff\x05", []int{0, 2}},
		{-100, all(12), nil},
		{-100, all(13), []int{0, 2, 3}},
		{math.MinInt, "", nil},
		{math.MinInt, all(50), nil},
		{math.MaxInt, "", but(20, 1, 4, 10)},
		{math.MaxInt, all(50), but(20, 1, 4, 10)},
	} {
		m, j := with(t, 20, 1, 4, 10)
		if got := m.Merge(c.base, c.bits); got != len(c.fresh) {
			t.Errorf("base %d, %x: %d, not %d", c.base, c.bits, got, len(c.fresh))
		}
		for _, i := range c.fresh {
			j.set(i)
		}
		hold(t, m, j)
	}
}

// P12.2: into maps of all sizes, empty, half full and full ones: bases at all edges, with no bits, few and far more than there are chunks.
func TestMergeAtTheEdges(t *testing.T) {
	for _, n := range sizes() {
		for _, base := range append(edges(), n-1, n, n+1, n/2) {
			for _, bits := range []string{"", "\x00", "\x01", "\x80", "\xff", "\x00\x01", "\x55\xaa\x55", all(n / 8), all((n + 7) / 8), strings.Repeat("\x00", n/8) + "\xff", all(32), all(33), all(100)} {
				for _, chunks := range [][]int{nil, {0}, {n - 1}, upTo(n / 2), upTo(n)} {
					m, j := with(t, n, chunks...)
					expectMerged(t, m, j, base, bits)
				}
			}
		}
	}
}

// P12.2: each bit alone, of each base from far below 0 to above all chunks.
func TestMergeOfEachBit(t *testing.T) {
	for _, n := range []int{1, 9, 64, 65} {
		for base := -70; base <= n+2; base++ {
			for bit := range 150 {
				bits := strings.Repeat("\x00", bit/8) + string([]byte{1 << (bit % 8)})
				m, _ := empty(t, n)
				below, place := max(0, min(base, n)), base+1+bit
				one := place >= below && place < n
				want := below
				if one {
					want++
				}
				if got := m.Merge(base, bits); got != want || m.Count() != want || m.Has(place) != one {
					t.Fatalf("of %d: base %d, bit %d: %d, count %d, has %t", n, base, bit, got, m.Count(), m.Has(place))
				}
				if below > 0 && !m.Has(below-1) {
					t.Fatalf("of %d: base %d, bit %d: without %d", n, base, bit, below-1)
				}
			}
		}
	}
}

// P12.2: bits whose places run over the greatest int, or just up to it, are no chunk's; nor are those whose places are below 0.
func TestMergeOfPlacesThatAreNone(t *testing.T) {
	for _, n := range sizes() {
		for less := range 300 {
			m, j := empty(t, n)
			if got := m.Merge(math.MaxInt-less, all(64)); got != n || !m.Full() {
				t.Fatalf("of %d: the greatest int less %d: %d", n, less, got)
			}
			m, j = empty(t, n)
			if got := m.Merge(math.MinInt+less, all(64)); got != 0 {
				t.Fatalf("of %d: the least int and %d: %d", n, less, got)
			}
			hold(t, m, j)
		}
	}
}

// P12.2: the base that is told isn't there by it, as none that is below 0.
func TestMergeLeavesTheBase(t *testing.T) {
	for _, n := range sizes() {
		for base := range n {
			m, j := empty(t, n)
			if got := m.Merge(base, all(32)); got != n-1 || m.Base() != base || !slices.Equal(m.Missing(0, n), []int{base}) {
				t.Fatalf("of %d: base %d: %d, missing %v", n, base, got, m.Missing(0, n))
			}
			j.merge(base, all(32))
			hold(t, m, j)
		}
	}
}

// P12.2: one merge behind the other, of any bases and bits.
func TestMergeOfAny(t *testing.T) {
	source := rand.New(rand.NewSource(1222))
	for range 400 {
		n := 1 + source.Intn(256)
		m, j := drawn(t, source, n)
		for range 6 {
			bits := make([]byte, source.Intn(50))
			if source.Intn(2) == 0 {
				for range len(bits) {
					bits[source.Intn(len(bits))] |= 1 << source.Intn(8)
				}
			} else {
				source.Read(bits)
			}
			expectMerged(t, m, j, source.Intn(n+120)-100, string(bits))
		}
	}
}

// P12.2: very many bits are merged too.
func TestMergeOfVeryManyBits(t *testing.T) {
	bits := all(1 << 18)
	for _, base := range []int{math.MinInt, -1 << 21, -1<<21 + 3, -1 << 20, -1, 0, 3, 255, 256, math.MaxInt} {
		m, j := with(t, 256, 0, 100)
		expectMerged(t, m, j, base, bits)
	}
}
