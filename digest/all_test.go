package digest_test

import (
	"math"
	"slices"
	"testing"

	"signpost/api"
	"signpost/digest"
	"signpost/table"
)

// holdAll holds All against the judge, and that the table stays.
func holdAll(t *testing.T, x *table.Table) []digest.Digest {
	t.Helper()
	list := x.All()
	got, want := digest.All(x), allJudged(list)
	if !slices.Equal(got, want) {
		t.Fatalf("%d routes: %v, not %v", len(list), got, want)
	}
	if !slices.Equal(x.All(), list) {
		t.Fatal("the table was changed")
	}
	return got
}

// P9.1: of a table without routes, and of none (nil), each range is empty.
func TestAllOfNoRoutes(t *testing.T) {
	for _, x := range []*table.Table{nil, {}, of(t)} {
		if got := digest.All(x); !slices.Equal(got, make([]digest.Digest, 17)) {
			t.Error(got)
		}
	}
}

// P9.1: one route is in its range, with its mark, and all other ranges are empty.
func TestAllOfOneRoute(t *testing.T) {
	for _, r := range edges() {
		want := make([]digest.Digest, 17)
		want[bucketJudged(r.To)] = digest.Digest{N: 1, Sum: markJudged(r)}
		if got := holdAll(t, of(t, r)); !slices.Equal(got, want) {
			t.Errorf("%v: %v, not %v", r, got, want)
		}
	}
}

// P9.1: each range, full and alone, and empty among the others.
func TestAllOfEachRange(t *testing.T) {
	for bucket := range 17 {
		alone := holdAll(t, of(t, routes(bucket, 300)...))
		_, others := partJudged(spread(300), bucket)
		without := holdAll(t, of(t, others...))
		for i := range 17 {
			if (alone[i].N == 300) != (i == bucket) || (alone[i].N == 0) != (i != bucket) || (without[i] == digest.Digest{}) != (i == bucket) {
				t.Errorf("range %d: %v in %d, %v without", bucket, alone[i], i, without[i])
			}
		}
	}
	n := 0
	for _, d := range holdAll(t, of(t, spread(300)...)) {
		n += d.N
	}
	if n != 300 {
		t.Error(n)
	}
}

// P9.1: sums are modulo 2^64, and don't hang on the order in which a table was told of its routes.
func TestAllSumsWrap(t *testing.T) {
	a, b := way(in(3, 0), 0, 0), way(in(3, 0), 0, 0)
	for i := 1; markJudged(a) <= math.MaxUint64-markJudged(b); i++ {
		a, b = way(in(3, i), 1, 1), way(in(3, i+1), 2, 2)
	}
	want := digest.Digest{N: 2, Sum: markJudged(a) + markJudged(b)}
	if want.Sum >= markJudged(a) {
		t.Fatal("the sum is below 2^64")
	}
	if x, y := holdAll(t, of(t, a, b))[3], holdAll(t, of(t, b, a))[3]; x != want || y != want {
		t.Errorf("%v, %v; not %v", x, y, want)
	}
}

// P9.1: All answers a list of its own each time.
func TestAllAnswersNewLists(t *testing.T) {
	x := of(t, spread(40)...)
	clear(digest.All(x))
	holdAll(t, x)
}

// P9.1: the example: two tables that differ in 10.0.0.0/8 alone.
func TestDifferOfTheExample(t *testing.T) {
	ten, rest := four(10, 0, 0, 0, 8), []api.Route{way(four(15, 0, 0, 0, 8), 1, 1), way(four(200, 0, 0, 0, 8), 2, 0), way(six("\x20\x01", 16), 3, 0)}
	tables := []*table.Table{
		of(t, rest...), of(t, append(rest, way(ten, 1, 0))...), of(t, append(rest, way(ten, 2, 0))...), of(t, append(rest, way(ten, 1, 1))...),
		of(t, append(rest, way(four(10, 0, 0, 0, 9), 1, 0))...), of(t, append(rest, way(four(11, 0, 0, 0, 8), 1, 0))...),
	}
	for i, x := range tables {
		for k, y := range tables {
			var want []int
			if i != k {
				want = []int{0}
			}
			if got := digest.Differ(digest.All(x), digest.All(y)); !slices.Equal(got, want) {
				t.Errorf("%d and %d: %v", i, k, got)
			}
		}
	}
}

// some: so many digests, no two the same.
func some(n int) []digest.Digest {
	list := make([]digest.Digest, n)
	for i := range list {
		list[i] = digest.Digest{N: 10 * i, Sum: uint64(i) << 58}
	}
	return list
}

// all17: all ranges.
func all17() []int {
	return []int{0, 1, 2, 3, 4, 5, 6, 7, 8, 9, 10, 11, 12, 13, 14, 15, 16}
}

// P9.1: one range, or two, whose N or Sum alone differ, or both.
func TestDiffer(t *testing.T) {
	for i := range 17 {
		for k := i; k < 17; k++ {
			for _, by := range []digest.Digest{{N: 1}, {N: -1}, {N: math.MinInt}, {Sum: 1}, {Sum: 1 << 63}, {Sum: math.MaxUint64}, {N: 1, Sum: 1}, {N: -1, Sum: 1 << 32}} {
				a, b := some(17), some(17)
				want := slices.Compact([]int{i, k})
				for _, at := range want {
					b[at].N += by.N
					b[at].Sum += by.Sum
				}
				x, y := slices.Clone(a), slices.Clone(b)
				if got := digest.Differ(a, b); !slices.Equal(got, want) {
					t.Errorf("%v: %v", want, got)
				}
				if got := digest.Differ(b, a); !slices.Equal(got, want) {
					t.Errorf("%v turned round: %v", want, got)
				}
				if !slices.Equal(a, x) || !slices.Equal(b, y) {
					t.Fatal("what was given was changed")
				}
			}
		}
	}
	if got := digest.Differ(some(17), some(17)); len(got) != 0 {
		t.Error(got)
	}
	if got := digest.Differ(some(17), make([]digest.Digest, 17)); !slices.Equal(got, all17()[1:]) {
		t.Error(got)
	}
}

// P9.1: all 17 differ, if one hasn't 17, also where both are the same.
func TestDifferOfOtherLengths(t *testing.T) {
	for _, n := range []int{0, 1, 16, 17, 18, 34} {
		for _, m := range []int{0, 1, 16, 17, 18, 34} {
			var want []int
			if n != 17 || m != 17 {
				want = all17()
			}
			if got := digest.Differ(some(n), some(m)); !slices.Equal(got, want) {
				t.Errorf("%d and %d: %v", n, m, got)
			}
		}
	}
	for _, c := range [][2][]digest.Digest{{nil, nil}, {nil, {}}, {nil, some(17)}, {some(17), nil}} {
		if got := digest.Differ(c[0], c[1]); !slices.Equal(got, all17()) {
			t.Errorf("%v: %v", c, got)
		}
	}
}
