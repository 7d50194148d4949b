package sack_test

import (
	"math/rand"
	"slices"
	"testing"

	"signpost/sack"
)

// reached: which of those that are there are told by the base and k bits behind it.
func reached(j judge, k int) judge {
	r := make(judge, len(j))
	for i := range j {
		r[i] = j[i] && i < j.base()+1+k
	}
	return r
}

// count: how many are there.
func (j judge) count() int { return len(j) - len(j.missing(0, len(j))) }

// expectTold holds that an empty map, which is told of m by k bits, is the same as far as they reach.
func expectTold(t *testing.T, m *sack.Map, j judge, k int) {
	t.Helper()
	o, _ := empty(t, len(j))
	want := reached(j, k)
	if got := o.Merge(m.Base(), m.Behind(k)); got != want.count() {
		t.Fatalf("%s: %d bits: %d, not %d", told(j), k, got, want.count())
	}
	hold(t, o, want)
	if j.base()+1+k >= len(j) {
		hold(t, o, j)
	}
}

// P12.3: every k from 0 to 256, of drawn maps of any size.
func TestToldIsTheSame(t *testing.T) {
	source := rand.New(rand.NewSource(123))
	for _, n := range append(sizes(), 20, 100, 200, 256, 256) {
		for range 2 {
			m, j := drawn(t, source, n)
			for k := range 257 {
				expectTold(t, m, j, k)
			}
			hold(t, m, j)
		}
	}
}

// P12.3: every map of few chunks.
func TestToldIsTheSameOfAllSmallMaps(t *testing.T) {
	for n := 1; n <= 9; n++ {
		for some := range 1 << n {
			var chunks []int
			for i := range n {
				if some>>i&1 == 1 {
					chunks = append(chunks, i)
				}
			}
			m, j := with(t, n, chunks...)
			for k := range n + 2 {
				expectTold(t, m, j, k)
			}
		}
	}
}

// P12.3: of 256 chunks all can be told, whichever are there.
func TestToldIsTheSameOfTheGreatest(t *testing.T) {
	for _, chunks := range [][]int{nil, {255}, {0}, {0, 255}, but(256, 0), but(256, 255), but(256, 63), but(256, 64), but(256, 0, 255), upTo(256)} {
		m, j := with(t, 256, chunks...)
		for k := range 257 {
			expectTold(t, m, j, k)
		}
	}
}

// P12.3: merged into one that has some already, just those that weren't there come.
func TestToldToOneThatHasSome(t *testing.T) {
	source := rand.New(rand.NewSource(1233))
	for range 50 {
		n := 1 + source.Intn(256)
		m, j := drawn(t, source, n)
		for k := range 257 {
			o, was := drawn(t, source, n)
			want := slices.Clone(was)
			for i, there := range reached(j, k) {
				want[i] = want[i] || there
			}
			if got := o.Merge(m.Base(), m.Behind(k)); got != want.count()-was.count() {
				t.Fatalf("%s told to one %s: %d bits: %d, not %d", told(j), told(was), k, got, want.count()-was.count())
			}
			hold(t, o, want)
		}
		hold(t, m, j)
	}
}

// P12.3: two that tell each other all have the same: what one of them had.
func TestToldToEachOther(t *testing.T) {
	source := rand.New(rand.NewSource(12333))
	for range 500 {
		n := 1 + source.Intn(256)
		a, j := drawn(t, source, n)
		b, k := drawn(t, source, n)
		b.Merge(a.Base(), a.Behind(256))
		a.Merge(b.Base(), b.Behind(256))
		for i := range j {
			j[i] = j[i] || k[i]
		}
		hold(t, a, j)
		hold(t, b, j)
	}
}

// P12.1, P12.2 and P12.3, of any calls.
func FuzzMap(f *testing.F) {
	f.Add(5, 0, 3, 8, "\x01\x02")
	f.Add(64, -1, 63, 9, "\xff\xff")
	f.Add(65, 64, 64, 255, "")
	f.Add(256, -1<<63, 255, 256, "\x80")
	f.Add(256, 1<<63-1, -1, 300, "\x80\x00\x00\x01")
	f.Fuzz(func(t *testing.T, n, base, i, k int, bits string) {
		if n < 1 || n > 256 {
			if m, err := sack.New(n); m != nil || err == 0 {
				t.Fatalf("of %d: error %d", n, err)
			}
			return
		}
		m, j := empty(t, n)
		if got := m.Set(i); got != j.set(i) {
			t.Fatalf("of %d: set %d: %t", n, i, got)
		}
		expectMerged(t, m, j, base, bits)
		if got := m.Missing(base, i); !slices.Equal(got, j.missing(base, i)) {
			t.Fatalf("%s: missing %d to %d: %v", told(j), base, i, got)
		}
		if got := m.Behind(k); got != j.behind(k) {
			t.Fatalf("%s: %d bits: %x", told(j), k, got)
		}
		expectTold(t, m, j, max(0, min(k, 256)))
		hold(t, m.Copy(), j)
	})
}
