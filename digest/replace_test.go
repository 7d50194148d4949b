package digest_test

import (
	"math"
	"math/rand"
	"slices"
	"testing"

	"signpost/api"
	"signpost/digest"
	"signpost/table"
)

// rightRoute: may it be a route, one of guess, of edges, or of wrongRoutes?
func rightRoute(r api.Route) bool {
	return !slices.ContainsFunc(wrongRoutes(), func(wrong api.Route) bool {
		return wrong.To == r.To && wrong.Metric == r.Metric
	})
}

// replaceJudged: what Replace should answer, of a table that there is.
func replaceJudged(x *table.Table, bucket int, list []api.Route) ([]api.Route, api.Errno) {
	if bucket < 0 || bucket > 16 {
		return nil, api.ErrRange
	}
	_, others := partJudged(x.All(), bucket)
	there := map[api.Prefix]int{}
	twice := false
	for _, r := range list {
		if bucketJudged(r.To) != bucket || !rightRoute(r) {
			return nil, api.ErrArg
		}
		there[r.To]++
		twice = twice || there[r.To] > 1
	}
	if twice {
		return nil, api.ErrOnce
	}
	if len(others)+len(list) > 300 {
		return nil, api.ErrBig
	}
	return slices.Concat(others, list), api.OK
}

// holdReplace holds Replace against the judge, and that it leaves what it is given.
func holdReplace(t *testing.T, x *table.Table, bucket int, list []api.Route) api.Errno {
	t.Helper()
	had := x.All()
	roomy := slices.Grow(slices.Clone(list), 2)
	spare := roomy[len(list):cap(roomy)]
	want, wrong := replaceJudged(x, bucket, list)
	y, err := digest.Replace(x, bucket, roomy)
	if err != wrong || (y == nil) != (err != api.OK) || y == x {
		t.Fatalf("range %d, %d routes: %v, error %d, not %d", bucket, len(list), y.All(), err, wrong)
	}
	if !table.Same(y, of(t, want...)) {
		t.Fatalf("range %d, %d routes: %v, not %v", bucket, len(list), y.All(), want)
	}
	if !slices.Equal(x.All(), had) || !slices.Equal(roomy, list) || slices.ContainsFunc(spare, func(r api.Route) bool { return r != api.Route{} }) {
		t.Fatal("what was given was changed")
	}
	if err == api.OK {
		clear(roomy)
		if !table.Same(y, of(t, want...)) {
			t.Fatal("the table knows of the list")
		}
		for _, r := range want[:min(1, len(want))] {
			y.Drop(r.To)
		}
		if err := y.Put(way(in(bucket, 999), 9, 9)); err != api.OK || !slices.Equal(x.All(), had) {
			t.Fatal("the tables know of each other")
		}
	}
	return err
}

// P9.2: the routes of each range, in order, of a table of all, of some and of no ranges.
func TestPart(t *testing.T) {
	for _, n := range []int{0, 1, 5, 16, 17, 18, 100, 300} {
		x := of(t, spread(n)...)
		var all []api.Route
		for bucket := range 17 {
			want, _ := partJudged(x.All(), bucket)
			got := digest.Part(x, bucket)
			if !slices.Equal(got, want) {
				t.Errorf("%d routes, range %d: %v, not %v", n, bucket, got, want)
			}
			all = append(all, got...)
		}
		if !slices.Equal(all, spread(n)) {
			t.Errorf("%d routes: %v", n, all)
		}
	}
}

// P9.2: the first and the last route of a range, and what stands around it; all the routes of the edges' prefixes.
func TestPartAtEnds(t *testing.T) {
	first, last := way(four(16, 0, 0, 0, 4), 1, 1), way(four(31, 255, 255, 255, 32), 2, 2)
	x := of(t, last, way(four(32, 0, 0, 0, 3), 3, 3), first, way(four(15, 255, 255, 255, 32), 4, 4), way(six("\x10", 8), 5, 5))
	if got := digest.Part(x, 1); !slices.Equal(got, []api.Route{first, last}) {
		t.Error(got)
	}
	var list []api.Route
	for i, p := range edgePrefixes() {
		list = append(list, way(p, i, uint32(i)))
	}
	y := of(t, list...)
	for bucket := range 17 {
		want, _ := partJudged(y.All(), bucket)
		if got := digest.Part(y, bucket); !slices.Equal(got, want) {
			t.Errorf("range %d: %v, not %v", bucket, got, want)
		}
	}
}

// P9.2: a range that there isn't has no routes; nor has a table that there isn't.
func TestPartOfNone(t *testing.T) {
	for _, bucket := range []int{math.MinInt, -17, -1, 17, 18, 256, 1 << 32, math.MaxInt} {
		if got := digest.Part(of(t, spread(300)...), bucket); len(got) != 0 {
			t.Errorf("%d: %v", bucket, got)
		}
	}
	for bucket := -2; bucket < 20; bucket++ {
		for _, x := range []*table.Table{nil, {}} {
			if got := digest.Part(x, bucket); len(got) != 0 {
				t.Errorf("%d: %v", bucket, got)
			}
		}
	}
}

// P9.2: Part answers a list of its own, and leaves the table.
func TestPartAnswersNewLists(t *testing.T) {
	x := of(t, spread(100)...)
	got := digest.Part(x, 3)
	want := slices.Clone(got)
	for i := range got {
		got[i].Metric = 12345
	}
	if !slices.Equal(x.All(), spread(100)) || !slices.Equal(digest.Part(x, 3), want) {
		t.Error(x.All())
	}
}

// P9.2: each range's routes are others, more or fewer, in any order; all other ranges stay.
func TestReplace(t *testing.T) {
	for _, n := range []int{0, 1, 40, 300} {
		x := of(t, spread(n)...)
		for bucket := range 17 {
			part := digest.Part(x, bucket)
			other := routes(bucket, len(part))
			for i := range other {
				other[i].Metric, other[i].Seq = 65534-i, uint32(i)
			}
			for _, list := range [][]api.Route{nil, {}, part, other, routes(bucket, 1), routes(bucket, len(part)), part[len(part)/2:]} {
				list = slices.Clone(list)
				slices.Reverse(list)
				if err := holdReplace(t, x, bucket, list); err != api.OK && n < 300 {
					t.Errorf("range %d: error %d", bucket, err)
				}
			}
		}
	}
}

// P9.2: prefixes at the ends of what may be.
func TestReplaceByEdges(t *testing.T) {
	x := of(t, spread(40)...)
	for _, r := range edges() {
		if err := holdReplace(t, x, bucketJudged(r.To), []api.Route{r}); err != api.OK {
			t.Errorf("%v: error %d", r, err)
		}
	}
}

// P9.2: there is no table, whatever else is wrong.
func TestReplaceOfNil(t *testing.T) {
	for _, bucket := range []int{-1, 0, 1, 16, 17} {
		for _, list := range [][]api.Route{nil, {}, routes(0, 3), routes(16, 301), wrongRoutes(), {{Metric: -1}}} {
			if y, err := digest.Replace(nil, bucket, list); y != nil || err != api.ErrNil {
				t.Errorf("%d: %v, error %d", bucket, y, err)
			}
		}
	}
}

// P9.2: there is no such range, whatever is wrong with the list.
func TestReplaceOfNoRange(t *testing.T) {
	for _, bucket := range []int{math.MinInt, -17, -1, 17, 18, 256, 1 << 32, math.MaxInt} {
		for _, list := range [][]api.Route{nil, routes(0, 3), routes(16, 301), wrongRoutes(), slices.Repeat(routes(1, 1), 2)} {
			for _, x := range []*table.Table{of(t), of(t, spread(300)...)} {
				if err := holdReplace(t, x, bucket, list); err != api.ErrRange {
					t.Errorf("%d: error %d", bucket, err)
				}
			}
		}
	}
}

// P9.2: a route that isn't of the range, at each place, where all else may be, and where there is more that is wrong.
func TestReplaceByRoutesOfOtherRanges(t *testing.T) {
	x := of(t, spread(100)...)
	for bucket := range 17 {
		for other := range 17 {
			if other == bucket {
				continue
			}
			for at := range 4 {
				list := slices.Insert(routes(bucket, 3), at, way(in(other, 700), 1, 1))
				if err := holdReplace(t, x, bucket, list); err != api.ErrArg {
					t.Errorf("range %d, by one of %d: error %d", bucket, other, err)
				}
			}
			// One that the table has in its own range, twice; and too many.
			there := digest.Part(x, other)[0]
			for _, list := range [][]api.Route{{there}, {there, there}, append(routes(bucket, 300), there)} {
				if err := holdReplace(t, x, bucket, list); err != api.ErrArg {
					t.Errorf("range %d, by one of %d: error %d", bucket, other, err)
				}
			}
		}
	}
}

// P9.2: a route that may not be, at each place, also where a prefix is there twice, or there are too many.
func TestReplaceByWrongRoutes(t *testing.T) {
	for _, r := range wrongRoutes() {
		bucket := bucketJudged(r.To)
		for _, x := range []*table.Table{of(t), of(t, spread(100)...), of(t, spread(300)...)} {
			for _, list := range [][]api.Route{routes(bucket, 2), slices.Repeat(routes(bucket, 1), 2), routes(bucket, 300), routes(bucket, 301)} {
				for _, at := range []int{0, 1, len(list)} {
					if err := holdReplace(t, x, bucket, slices.Insert(slices.Clone(list), at, r)); err != api.ErrArg {
						t.Errorf("%v: error %d", r, err)
					}
				}
			}
		}
	}
}

// P9.2: one prefix twice, the same route or another one, also where there are too many.
func TestReplaceByOnePrefixTwice(t *testing.T) {
	for bucket := range 17 {
		for _, x := range []*table.Table{of(t), of(t, spread(100)...), of(t, spread(300)...)} {
			for _, n := range []int{1, 2, 50, 300, 301} {
				for _, again := range []api.Route{routes(bucket, n)[0], routes(bucket, n)[n-1], way(in(bucket, n/2), 1, 1)} {
					if err := holdReplace(t, x, bucket, append(routes(bucket, n), again)); err != api.ErrOnce {
						t.Errorf("range %d: error %d", bucket, err)
					}
				}
			}
		}
	}
}

// P9.2: at most 300 routes in all; those that go don't count.
func TestReplaceUpToAFullTable(t *testing.T) {
	for bucket := range 17 {
		for _, n := range []int{0, 17, 150, 299, 300} {
			x := of(t, spread(n)...)
			room := 300 - n + len(digest.Part(x, bucket))
			for more, want := range []api.Errno{api.OK, api.ErrBig, api.ErrBig} {
				if err := holdReplace(t, x, bucket, routes(bucket, room+more)); err != want {
					t.Errorf("range %d, %d routes and %d too many: error %d", bucket, n, more, err)
				}
			}
		}
	}
	full := of(t, routes(5, 300)...)
	if err := holdReplace(t, full, 5, routes(5, 300)); err != api.OK {
		t.Error(err)
	}
	if err := holdReplace(t, full, 6, routes(6, 1)); err != api.ErrBig {
		t.Error(err)
	}
}

// P9.2, of many tables and lists, with more wrong than one thing.
func TestReplaceOfMany(t *testing.T) {
	source := rand.New(rand.NewSource(92))
	count := map[api.Errno]int{}
	for range 3000 {
		x := of(t, spread(source.Intn(301))...)
		bucket := source.Intn(19) - 1
		var list []api.Route
		for range source.Intn(4) {
			list = append(list, way(in(max(bucket, 0), source.Intn(20)), source.Intn(100), 0))
		}
		if source.Intn(3) == 0 {
			list = append(list, guess(source))
		}
		if source.Intn(10) == 0 {
			list = append(list, wrongRoutes()[source.Intn(len(wrongRoutes()))])
		}
		if source.Intn(10) == 0 && bucket >= 0 {
			list = append(list, routes(min(bucket, 16), 300)[20:]...)
		}
		count[holdReplace(t, x, bucket, list)]++
	}
	for _, err := range []api.Errno{api.OK, api.ErrRange, api.ErrArg, api.ErrOnce, api.ErrBig} {
		if count[err] < 20 {
			t.Errorf("error %d: only %d", err, count[err])
		}
	}
}
