package sack_test

import (
	"fmt"
	"math"
	"math/rand"
	"slices"
	"testing"

	"signpost/api"
	"signpost/sack"
)

// judge is a map by the chapter's words: of each chunk, whether it is there.
type judge []bool

func (j judge) has(i int) bool { return i >= 0 && i < len(j) && j[i] }

func (j judge) set(i int) bool {
	if i < 0 || i >= len(j) || j[i] {
		return false
	}
	j[i] = true
	return true
}

func (j judge) base() int {
	if at := slices.Index(j, false); at >= 0 {
		return at
	}
	return len(j)
}

func (j judge) missing(from, to int) []int {
	var list []int
	for i, there := range j {
		if from <= i && i < to && !there {
			list = append(list, i)
		}
	}
	return list
}

func (j judge) behind(k int) string {
	var list []byte
	for i := range max(0, min(k, 256)) {
		if i%8 == 0 {
			list = append(list, 0)
		}
		if j.has(j.base() + 1 + i) {
			list[i/8] += 1 << (i % 8)
		}
	}
	return string(list)
}

// merge goes by the bits, one by one, each with its place.
func (j judge) merge(base int, told string) int {
	fresh := 0
	for i := range j {
		if i < base && j.set(i) {
			fresh++
		}
	}
	for i := range 8 * len(told) {
		one := told[i/8]&(1<<(i%8)) != 0
		// Beyond the greatest int no place is a chunk's.
		if one && base <= math.MaxInt-1-i && j.set(base+1+i) {
			fresh++
		}
	}
	return fresh
}

// sizes are the least and the greatest, and those around the borders of bytes and of words.
func sizes() []int {
	return []int{1, 2, 3, 7, 8, 9, 15, 16, 17, 63, 64, 65, 66, 127, 128, 129, 191, 192, 193, 254, 255, 256}
}

// far are numbers that are no chunk's and no size's; some of them are, in their lowest bits.
func far() []int {
	return []int{math.MinInt, math.MinInt + 1, math.MinInt + 64, math.MinInt32, -1 << 32, -1<<32 + 1, -512, -257, -256, -255, -65, -64, -63, -9, -8, -2, -1, 257, 258, 264, 320, 512, 513, 65536, 1 << 32, 1<<32 + 1, math.MaxInt32, 1 << 62, math.MaxInt - 64, math.MaxInt - 1, math.MaxInt}
}

// edges are sizes and far numbers, and 0.
func edges() []int { return slices.Concat(far(), []int{0}, sizes()) }

// empty: a map of n, none there, and its judge.
func empty(t *testing.T, n int) (*sack.Map, judge) {
	t.Helper()
	m, err := sack.New(n)
	if m == nil || err != api.OK {
		t.Fatalf("of %d: error %d", n, err)
	}
	return m, make(judge, n)
}

// with: a map of n, these there, and its judge.
func with(t *testing.T, n int, chunks ...int) (*sack.Map, judge) {
	t.Helper()
	m, j := empty(t, n)
	for _, i := range chunks {
		if !m.Set(i) || !j.set(i) {
			t.Fatalf("of %d: %d isn't set", n, i)
		}
	}
	return m, j
}

// upTo: the numbers 0 to n - 1.
func upTo(n int) []int {
	list := make([]int, n)
	for i := range list {
		list[i] = i
	}
	return list
}

// but: the numbers 0 to n - 1, but those.
func but(n int, those ...int) []int {
	return slices.DeleteFunc(upTo(n), func(i int) bool { return slices.Contains(those, i) })
}

// drawn: a map with few or many there, often all up to some of them, and its judge.
func drawn(t *testing.T, source *rand.Rand, n int) (*sack.Map, judge) {
	t.Helper()
	m, j := empty(t, n)
	full, often := source.Intn(2)*source.Intn(n+1), source.Intn(101)
	for _, i := range source.Perm(n) {
		if i < full || source.Intn(100) < often {
			m.Set(i)
			j.set(i)
		}
	}
	return m, j
}

// hold holds all that a map tells against its judge.
func hold(t *testing.T, m *sack.Map, j judge) {
	t.Helper()
	n, count := len(j), 0
	for i, there := range j {
		if m.Has(i) != there {
			t.Fatalf("%s: has %d: %t", told(j), i, m.Has(i))
		}
		if there {
			count++
		}
	}
	if m.Has(-1) || m.Has(n) {
		t.Fatalf("%s: has -1 %t, %d %t", told(j), m.Has(-1), n, m.Has(n))
	}
	if m.Len() != n || m.Count() != count || m.Base() != j.base() || m.Full() != (count == n) {
		t.Fatalf("%s: len %d, count %d, base %d, full %t", told(j), m.Len(), m.Count(), m.Base(), m.Full())
	}
	if got := m.Missing(0, n); !slices.Equal(got, j.missing(0, n)) {
		t.Fatalf("%s: missing %v", told(j), got)
	}
	if got := m.Behind(256); got != j.behind(256) {
		t.Fatalf("%s: behind %x, not %x", told(j), got, j.behind(256))
	}
}

// told: a judge for a test's message.
func told(j judge) string {
	return fmt.Sprintf("of %d without %v", len(j), j.missing(0, len(j)))
}
