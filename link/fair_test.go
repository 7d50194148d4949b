package link_test

import (
	"math"
	"math/rand"
	"slices"
	"testing"

	"signpost/api"
	"signpost/link"
)

// bad are the kinds that Fair counts; good some of those that end a row.
func bad() []int { return []int{api.Drop, api.Flip, api.Cut} }

func good() []int { return append([]int{api.Deliver, api.Twice, api.Late}, wrongKinds()...) }

// row: n fates of these kinds in turn, and what N and Bits are doesn't matter.
func row(n int, kinds ...int) []api.Fate {
	list := make([]api.Fate, n)
	for i := range list {
		list[i] = api.Fate{Kind: kinds[i%len(kinds)], N: i - n/2, Bits: uint32(i % 2)}
	}
	return list
}

// expectFair holds what is told of a list, and that it stays.
func expectFair(t *testing.T, list []api.Fate, n int, want bool) {
	t.Helper()
	before := slices.Clone(list)
	if got := link.Fair(list, n); got != want {
		t.Fatalf("%v, %d: %t", list, n, got)
	}
	if !slices.Equal(list, before) {
		t.Fatalf("%v became %v", before, list)
	}
}

// P15.3: n below 1: false, unless the list is empty; of the empty one true, whatever n is.
func TestFairOfFewerThanOne(t *testing.T) {
	for _, n := range []int{math.MinInt, math.MinInt + 1, -1 << 32, -1<<32 + 1, -3, -2, -1, 0} {
		expectFair(t, nil, n, true)
		expectFair(t, []api.Fate{}, n, true)
		for _, kind := range kinds() {
			expectFair(t, row(1, kind), n, false)
			expectFair(t, row(5, kind), n, false)
		}
	}
}

// P15.3: of no fates, true.
func TestFairOfNone(t *testing.T) {
	for _, n := range []int{1, 2, 3, 1 << 32, math.MaxInt - 1, math.MaxInt} {
		expectFair(t, nil, n, true)
		expectFair(t, []api.Fate{}, n, true)
		expectFair(t, row(3, api.Drop)[:0], n, true)
	}
}

// P15.3: n of 1: whether there is none of these kinds.
func TestFairOfOne(t *testing.T) {
	for _, kind := range bad() {
		expectFair(t, row(1, kind), 1, false)
		expectFair(t, append(row(4, api.Deliver), row(1, kind)...), 1, false)
		expectFair(t, append(row(1, kind), row(4, api.Deliver)...), 1, false)
	}
	for _, kind := range good() {
		expectFair(t, row(1, kind), 1, true)
		expectFair(t, row(7, kind), 1, true)
	}
}

// P15.3: rows of n less one, of n, of more; at the beginning, in the middle, at the end; of one kind, and mixed.
func TestFairOfRows(t *testing.T) {
	for _, which := range [][]int{{api.Drop}, {api.Flip}, {api.Cut}, {api.Drop, api.Flip}, {api.Cut, api.Drop}, {api.Flip, api.Cut, api.Drop}} {
		for n := 1; n < 12; n++ {
			for _, long := range []int{n - 1, n, n + 1, 2 * n} {
				for _, ahead := range []int{0, 1, 2, 5} {
					for _, behind := range []int{0, 1, 3} {
						list := slices.Concat(row(ahead, good()...), row(long, which...), row(behind, api.Late, api.Twice))
						expectFair(t, list, n, long < n)
					}
				}
			}
		}
	}
}

// P15.3: each other kind breaks a row: those ahead of it and those behind it aren't added.
func TestFairOfBrokenRows(t *testing.T) {
	for _, kind := range good() {
		for n := 2; n < 9; n++ {
			part := row(n-1, bad()...)
			breaks := row(1, kind)
			expectFair(t, slices.Concat(part, breaks, part, breaks, part), n, true)
			expectFair(t, slices.Concat(part, breaks, part, breaks, part), n-1, false)
			expectFair(t, slices.Concat(part, breaks, part, row(1, api.Cut), breaks), n, false)
			expectFair(t, slices.Concat(part, breaks, row(1, api.Flip), part), n, false)
		}
	}
}

// P15.3: rows that are far longer, or far shorter, than n.
func TestFairOfFarNumbers(t *testing.T) {
	list := row(300, bad()...)
	for _, n := range []int{1, 2, 255, 256, 257, 299, 300} {
		expectFair(t, list, n, false)
	}
	for _, n := range []int{301, 512, 556, 1<<32 + 1, 1<<32 + 300, math.MaxInt} {
		expectFair(t, list, n, true)
	}
}

// P15.3: every list of up to five fates, of each kind and of one that there is not.
func TestFairOfAllShortLists(t *testing.T) {
	for size := range 6 {
		many := 1
		for range size {
			many *= 7
		}
		for code := range many {
			list := make([]api.Fate, size)
			for i := range list {
				list[i].Kind = code % 7
				code /= 7
			}
			for n := -1; n < 8; n++ {
				expectFair(t, list, n, fair(list, n))
			}
		}
	}
}

// P15.3: drawn lists, often fair and often not.
func TestFairOfAny(t *testing.T) {
	source := rand.New(rand.NewSource(153))
	var count [2]int
	for range 20000 {
		list := make([]api.Fate, source.Intn(60))
		often := 1 + source.Intn(8)
		for i := range list {
			list[i] = api.Fate{Kind: good()[source.Intn(len(good()))], N: source.Int()}
			if source.Intn(often+1) > 0 {
				list[i].Kind = bad()[source.Intn(3)]
			}
		}
		n := 1 + source.Intn(10)
		want := fair(list, n)
		expectFair(t, list, n, want)
		if want {
			count[1]++
		} else {
			count[0]++
		}
	}
	if count[0] < 2000 || count[1] < 2000 {
		t.Errorf("%d fair, %d not", count[1], count[0])
	}
}
