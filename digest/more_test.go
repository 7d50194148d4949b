package digest_test

import (
	"math"
	"math/rand"
	"slices"
	"testing"

	"signpost/api"
	"signpost/digest"
)

// holdMore holds what More answers, and that it leaves the list that it is given, its spare room too.
func holdMore(t *testing.T, list []digest.Digest, i api.Inc, was api.Route, want []digest.Digest) {
	t.Helper()
	roomy := slices.Grow(slices.Clone(list), 5)
	spare := roomy[len(list):cap(roomy)]
	for k := range spare {
		spare[k] = digest.Digest{N: -7, Sum: 7}
	}
	got := digest.More(roomy, i, was)
	if !slices.Equal(got, want) {
		t.Errorf("%v, was %v: %v, not %v", i, was, got, want)
	}
	if !slices.Equal(roomy, list) {
		t.Fatalf("%v: the list was changed", i)
	}
	for _, d := range spare {
		if (d != digest.Digest{N: -7, Sum: 7}) {
			t.Fatalf("%v: the spare room was changed", i)
		}
	}
}

// P9.1: each kind of change, in each range, by hand.
func TestMore(t *testing.T) {
	for bucket := range 17 {
		p := in(bucket, 5)
		old, fresh := way(p, 1, 2), way(p, 65534, math.MaxUint32)
		list := some(17)
		behind := func(n int, sum uint64) []digest.Digest {
			want := slices.Clone(list)
			want[bucket].N += n
			want[bucket].Sum += sum
			return want
		}
		holdMore(t, list, add(fresh), api.Route{}, behind(1, markJudged(fresh)))
		holdMore(t, list, change(fresh), old, behind(0, markJudged(fresh)-markJudged(old)))
		holdMore(t, list, change(old), fresh, behind(0, markJudged(old)-markJudged(fresh)))
		holdMore(t, list, change(old), old, list)
		holdMore(t, list, withdraw(p), old, behind(-1, -markJudged(old)))
		// What was there isn't asked for where a route is added.
		for _, was := range []api.Route{old, fresh, way(in(16-bucket, 1), 3, 3), way(four(1, 1, 1, 1, 99), -1, 0)} {
			holdMore(t, list, add(fresh), was, behind(1, markJudged(fresh)))
		}
	}
}

// P9.1: the list itself, unless it has 17; nil and an empty one are one.
func TestMoreOfOtherLengths(t *testing.T) {
	r := way(in(1, 1), 1, 1)
	for _, n := range []int{0, 1, 2, 15, 16, 18, 19, 34} {
		for _, i := range []api.Inc{add(r), change(r), withdraw(r.To), {}, {Kind: 4, Route: r}} {
			holdMore(t, some(n), i, r, some(n))
			if list := some(n); n > 0 && &digest.More(list, i, r)[0] != &list[0] {
				t.Errorf("%v of %d: another list", i, n)
			}
		}
	}
	if got := digest.More(nil, add(r), r); len(got) != 0 {
		t.Error(got)
	}
}

// P9.1: the list itself, if Kind is none.
func TestMoreOfOtherKinds(t *testing.T) {
	for _, kind := range []int{math.MinInt, -3, -2, -1, 0, 4, 5, 256, 257, 258, 259, 1 + 1<<32, math.MaxInt} {
		for bucket := range 17 {
			r := way(in(bucket, 1), 1, 1)
			i := api.Inc{Kind: kind, Route: r}
			holdMore(t, some(17), i, r, some(17))
			if list := some(17); &digest.More(list, i, r)[0] != &list[0] {
				t.Errorf("%v: another list", i)
			}
		}
	}
}

// P9.1: behind a change that is done the list is a new one.
func TestMoreAnswersNewLists(t *testing.T) {
	r := way(in(4, 4), 4, 4)
	for _, i := range []api.Inc{add(r), change(r), withdraw(r.To)} {
		list := some(17)
		clear(digest.More(list, i, r))
		if !slices.Equal(list, some(17)) {
			t.Errorf("%v: the list was changed", i)
		}
	}
}

// P9.1: changes of routes that may not be end, whatever the digests are.
func TestMoreOfWrongRoutes(t *testing.T) {
	for _, r := range wrongRoutes() {
		for kind := range 5 {
			for _, d := range []digest.Digest{{}, {N: math.MinInt}, {N: math.MaxInt, Sum: math.MaxUint64}} {
				list := slices.Repeat([]digest.Digest{d}, 17)
				if got := digest.More(list, api.Inc{Kind: kind, Route: r}, r); len(got) != 17 {
					t.Errorf("%v: %v", r, got)
				}
			}
		}
	}
}

// P9.1: behind every change that a table does, All of it is what More tells of All ahead of it.
func TestMoreAlongATable(t *testing.T) {
	source := rand.New(rand.NewSource(911))
	done := map[int]int{}
	full := 0
	for round := range 40 {
		x := of(t, spread(round*300/39)...)
		list := digest.All(x)
		for range 500 {
			i := guessChange(source, x.All())
			was, _ := x.Get(i.Route.To)
			if x.Do(i) != api.OK {
				continue
			}
			done[i.Kind]++
			if x.Len() == 300 {
				full++
			}
			list = digest.More(list, i, was)
			if got := digest.All(x); !slices.Equal(got, list) {
				t.Fatalf("%v, was %v: %v, not %v", i, was, list, got)
			}
		}
		holdAll(t, x)
	}
	for kind := 1; kind <= 3; kind++ {
		if done[kind] < 1000 {
			t.Errorf("only %d of kind %d", done[kind], kind)
		}
	}
	if full == 0 {
		t.Error("no table was full")
	}
}

// P9.1: a table that is filled up and emptied again, route by route.
func TestMoreThereAndBack(t *testing.T) {
	x := of(t)
	list := digest.All(x)
	for _, r := range spread(300) {
		i := add(r)
		list = digest.More(list, i, api.Route{})
		if err := x.Do(i); err != api.OK || !slices.Equal(digest.All(x), list) {
			t.Fatalf("%v: error %d, %v", i, err, list)
		}
	}
	for _, r := range spread(300) {
		i := withdraw(r.To)
		list = digest.More(list, i, r)
		if err := x.Do(i); err != api.OK || !slices.Equal(digest.All(x), list) {
			t.Fatalf("%v: error %d, %v", i, err, list)
		}
	}
	if !slices.Equal(list, make([]digest.Digest, 17)) {
		t.Error(list)
	}
}
