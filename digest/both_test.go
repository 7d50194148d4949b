package digest_test

import (
	"math"
	"math/rand"
	"slices"
	"testing"

	"signpost/api"
	"signpost/digest"
	"signpost/table"
)

// guess: a route that may be, of any prefix.
func guess(source *rand.Rand) api.Route {
	p := api.Prefix{Six: source.Intn(4) == 0}
	size := 4
	if p.Six {
		size = 16
	}
	p.Len = source.Intn(8*size + 1)
	for i := range p.Len {
		p.Addr[i/8] |= byte(source.Intn(2)) << (7 - i%8)
	}
	return way(p, []int{0, 1, source.Intn(65535), 65534}[source.Intn(4)], []uint32{0, 1, source.Uint32(), math.MaxUint32}[source.Intn(4)])
}

// guessChange: a change that a table of these routes may do, or not.
func guessChange(source *rand.Rand, list []api.Route) api.Inc {
	r := guess(source)
	if len(list) == 0 || source.Intn(3) == 0 {
		return add(r)
	}
	r.To = list[source.Intn(len(list))].To
	return []api.Inc{add(r), change(r), change(r), withdraw(r.To)}[source.Intn(4)]
}

// unlike: a table that differs from another one by some changes.
func unlike(source *rand.Rand, x *table.Table, n int) *table.Table {
	y := x.Copy()
	for range n {
		y.Do(guessChange(source, y.All()))
	}
	return y
}

// holdMade replaces the routes of all ranges that differ by another table's, and holds that the table is that one; and that no range was told to differ that doesn't.
func holdMade(t *testing.T, x, y *table.Table) {
	t.Helper()
	differ := digest.Differ(digest.All(x), digest.All(y))
	for bucket := range 17 {
		if slices.Contains(differ, bucket) == slices.Equal(digest.Part(x, bucket), digest.Part(y, bucket)) {
			t.Fatalf("range %d: %v", bucket, differ)
		}
	}
	// First where a range becomes smaller, so that there aren't too many routes on the way.
	growth := func(bucket int) int { return len(digest.Part(y, bucket)) - len(digest.Part(x, bucket)) }
	slices.SortFunc(differ, func(a, b int) int { return growth(a) - growth(b) })
	z := x
	for _, bucket := range differ {
		next, err := digest.Replace(z, bucket, digest.Part(y, bucket))
		if err != api.OK {
			t.Fatalf("range %d: error %d", bucket, err)
		}
		z = next
	}
	if !table.Same(z, y) || len(digest.Differ(digest.All(z), digest.All(y))) != 0 {
		t.Fatalf("%v, not %v", z.All(), y.All())
	}
}

// P9.3: of any two tables the one is made the other one.
func TestMadeTheSame(t *testing.T) {
	source := rand.New(rand.NewSource(93))
	x := of(t)
	for range 300 {
		y := unlike(source, of(t, spread(source.Intn(301))...), source.Intn(100))
		holdMade(t, x, y)
		holdMade(t, y, x)
		x = y
	}
}

// P9.3: of tables that differ by few changes.
func TestMadeTheSameByFewChanges(t *testing.T) {
	source := rand.New(rand.NewSource(933))
	for i := range 1000 {
		x := unlike(source, of(t, spread(i%301)...), 20)
		holdMade(t, x, unlike(source, x, i%5))
	}
}

// P9.3: tables that differ in one route alone, by its length, a byte of its address, its metric or its number: by a bit each, wherever it stands.
func TestMadeTheSameWhereOneBitDiffers(t *testing.T) {
	for _, p := range []api.Prefix{four(10, 20, 30, 40, 32), six("\x20\x01\x0d\xb8\x01\x02\x03\x04\x05\x06\x07\x08\x09\x0a\x0b\x0c", 128)} {
		r := way(p, 0x5a5a, 0x12345678)
		x := of(t, append(spread(40), r)...)
		var others []api.Route
		for i := range p.Len {
			o := r
			o.To.Addr[i/8] ^= 0x80 >> (i % 8)
			others = append(others, o)
		}
		for i := range 16 {
			if o := way(p, r.Metric^1<<i, r.Seq); o.Metric < 65535 {
				others = append(others, o)
			}
		}
		for i := range 32 {
			others = append(others, way(p, r.Metric, r.Seq^1<<i))
		}
		for _, o := range others {
			holdMade(t, x, of(t, append(spread(40), o)...))
		}
	}
	for _, kind := range []bool{false, true} {
		for n := range 32 {
			a, b := way(api.Prefix{Six: kind, Len: n}, 1, 1), way(api.Prefix{Six: kind, Len: n + 1}, 1, 1)
			holdMade(t, of(t, append(routes(9, 20), a)...), of(t, append(routes(9, 20), b)...))
		}
	}
}

// P9.3: two routes that have changed their metrics, or their numbers, with each other: as many routes, with the same numbers in all.
func TestMadeTheSameWhereRoutesAreExchanged(t *testing.T) {
	for bucket := range 17 {
		p, q := in(bucket, 1), in(bucket, 2)
		for _, pair := range [][2][]api.Route{
			{{way(p, 1, 5), way(q, 2, 5)}, {way(p, 2, 5), way(q, 1, 5)}},
			{{way(p, 1, 5), way(q, 1, 6)}, {way(p, 1, 6), way(q, 1, 5)}},
			{{way(p, 1, 2), way(q, 3, 3)}, {way(p, 2, 1), way(q, 3, 3)}},
			{{way(p, 1, 1)}, {way(q, 1, 1)}},
		} {
			holdMade(t, of(t, pair[0]...), of(t, pair[1]...))
		}
	}
}

// P9.3: from no routes to 300 and back, and between full tables of unlike ranges.
func TestMadeTheSameOfFullTables(t *testing.T) {
	none, all := of(t), of(t, spread(300)...)
	for bucket := range 17 {
		full, other := of(t, routes(bucket, 300)...), of(t, routes(16-bucket, 300)...)
		for _, x := range []*table.Table{none, all, full, other} {
			for _, y := range []*table.Table{none, all, full, other} {
				holdMade(t, x, y)
			}
		}
	}
}

// P9.1, P9.2 and P9.3, of tables that are made from any number.
func FuzzMade(f *testing.F) {
	f.Add(int64(1), uint16(0), uint8(3))
	f.Add(int64(2), uint16(300), uint8(40))
	f.Fuzz(func(t *testing.T, seed int64, n uint16, changes uint8) {
		source := rand.New(rand.NewSource(seed))
		x := of(t, spread(int(n)%301)...)
		y := unlike(source, x, int(changes))
		holdMade(t, x, y)
		holdAll(t, y)
		list, err := digest.Read(digest.Print(digest.All(y)))
		if err != api.OK || !slices.Equal(list, digest.All(y)) {
			t.Fatalf("%v, error %d", list, err)
		}
	})
}
