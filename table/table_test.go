package table_test

import (
	"math"
	"math/rand"
	"slices"
	"testing"

	"signpost/api"
	"signpost/table"
)

// four: a prefix of four bytes, made by hand.
func four(a, b, c, d byte, n int) api.Prefix {
	return api.Prefix{Addr: [16]byte{a, b, c, d}, Len: n}
}

// six: one of sixteen, of which these bytes come first.
func six(first string, n int) api.Prefix {
	p := api.Prefix{Six: true, Len: n}
	copy(p.Addr[:], first)
	return p
}

// way: a route to a prefix.
func way(p api.Prefix, metric int, seq uint32) api.Route {
	return api.Route{To: p, Metric: metric, Seq: seq}
}

// many: so many routes to unlike prefixes, in order.
func many(n int) []api.Route {
	list := make([]api.Route, n)
	for i := range list {
		list[i] = way(four(20, byte(i>>8), byte(i), 0, 24), i, uint32(i)*3)
	}
	return list
}

// rising are routes in order: by the kind, by the address, by the length.
func rising() []api.Route {
	list := []api.Prefix{
		{}, four(0, 0, 0, 0, 1), four(0, 0, 0, 0, 32), four(9, 0, 0, 0, 8), four(10, 0, 0, 0, 7), four(10, 0, 0, 0, 8), four(10, 0, 0, 0, 9),
		four(10, 0, 0, 1, 32), four(10, 1, 0, 0, 16), four(10, 1, 0, 0, 17), four(128, 0, 0, 0, 1), four(255, 255, 255, 255, 32),
		{Six: true}, six("", 128), six("\x0a", 8), six("\x20\x01\x0d\xb8", 32), six("\x20\x01\x0d\xb8", 33), six("\xff", 8),
	}
	var routes []api.Route
	for i, p := range list {
		routes = append(routes, way(p, i%3, uint32(i%2)))
	}
	return routes
}

// wrongPrefixes are some that may not be.
func wrongPrefixes() []api.Prefix {
	return []api.Prefix{
		four(10, 0, 0, 0, -1), four(10, 0, 0, 0, 33), four(10, 1, 0, 0, 8), four(0, 0, 0, 1, 31), four(1, 0, 0, 0, 0), {Addr: [16]byte{4: 1}, Len: 32},
		six("", -1), six("", 129), six("\x20\x01", 15), four(0, 0, 0, 0, math.MinInt), six("", math.MaxInt),
	}
}

// wrongs are routes that may not be.
func wrongs() []api.Route {
	var list []api.Route
	for _, p := range wrongPrefixes() {
		list = append(list, way(p, 0, 0), way(p, 1, 2))
	}
	for _, metric := range []int{-1, 65535, 65536, 1 << 32, math.MinInt, math.MaxInt} {
		list = append(list, way(four(10, 0, 0, 0, 8), metric, 0), way(six("\x0a", 8), metric, 7))
	}
	return list
}

// of: a table of routes that may be.
func of(t *testing.T, list ...api.Route) *table.Table {
	t.Helper()
	x, err := table.New(list...)
	if err != api.OK || x == nil {
		t.Fatalf("%d routes: %d", len(list), err)
	}
	return x
}

// holds: are just these routes in it, in this order, by all that one can ask?
func holds(t *testing.T, x *table.Table, want []api.Route) {
	t.Helper()
	if x.Len() != len(want) || !slices.Equal(x.All(), want) {
		t.Fatalf("%d routes: %v, not %v", x.Len(), x.All(), want)
	}
	for _, r := range want {
		if got, there := x.Get(r.To); got != r || !there {
			t.Fatalf("%v: %v %v", r, got, there)
		}
	}
}

// P6.1: which routes may be.
func TestRight(t *testing.T) {
	list := append(rising(), many(300)...)
	for _, metric := range []int{0, 1, 65533, 65534} {
		for _, seq := range []uint32{0, 1, math.MaxUint32} {
			list = append(list, way(api.Prefix{}, metric, seq), way(six("", 128), metric, seq))
		}
	}
	for _, r := range list {
		if !table.Right(r) {
			t.Errorf("%v may be", r)
		}
	}
	for _, r := range wrongs() {
		if table.Right(r) {
			t.Errorf("%v may not be", r)
		}
	}
}

// P6.1: New, of routes in any order: they stand in the prefixes' order, and the list that was handed in as it was.
func TestNewInAnyOrder(t *testing.T) {
	source := rand.New(rand.NewSource(6))
	for _, want := range [][]api.Route{nil, {}, rising()[:1], rising()[:2], rising(), many(299), many(300)} {
		room := append(slices.Clone(want), way(api.Prefix{}, 99, 99))
		for range 20 {
			list := slices.Clone(room)[:len(want)]
			source.Shuffle(len(list), func(i, j int) { list[i], list[j] = list[j], list[i] })
			before := slices.Clone(list[:len(room)])
			x := of(t, list...)
			if !slices.Equal(list[:len(room)], before) {
				t.Fatal("the list was changed")
			}
			clear(list)
			holds(t, x, want)
		}
	}
}

// P6.1: what New refuses, alone.
func TestNewRefuses(t *testing.T) {
	for _, c := range []struct {
		list []api.Route
		want api.Errno
	}{
		{many(301), api.ErrBig},
		{many(1000), api.ErrBig},
		{append(many(2), many(1)...), api.ErrOnce},
		{[]api.Route{way(api.Prefix{}, 1, 1), way(api.Prefix{}, 2, 1)}, api.ErrOnce},
		{[]api.Route{way(api.Prefix{}, 1, 1), way(api.Prefix{}, 1, 2)}, api.ErrOnce},
		{append(rising(), rising()[0]), api.ErrOnce},
		{append(rising(), rising()[17]), api.ErrOnce},
		{append(many(299), many(1)...), api.ErrOnce},
	} {
		if x, err := table.New(c.list...); x != nil || err != c.want {
			t.Errorf("%d routes: %v %d, not %d", len(c.list), x, err, c.want)
		}
	}
	for _, r := range wrongs() {
		for at := range 4 {
			if x, err := table.New(slices.Insert(many(3), at, r)...); x != nil || err != api.ErrArg {
				t.Errorf("%v: %v %d", r, x, err)
			}
		}
	}
}

// P6.1, and rule 2: of several errors the one that is named first, wherever it stands in the list.
func TestNewWithSeveralErrors(t *testing.T) {
	wrong := way(four(10, 0, 0, 0, 8), 65535, 0)
	for i, c := range []struct {
		list []api.Route
		want api.Errno
	}{
		{slices.Concat(many(1), many(1), []api.Route{wrong}), api.ErrArg},
		{slices.Concat([]api.Route{wrong}, many(1), many(1)), api.ErrArg},
		{[]api.Route{wrong, wrong}, api.ErrArg},
		{slices.Concat(many(301), []api.Route{wrong}), api.ErrArg},
		{slices.Concat([]api.Route{wrong}, many(301)), api.ErrArg},
		{slices.Concat(many(301), many(1), []api.Route{wrong}), api.ErrArg},
		{slices.Concat(many(301), many(1)), api.ErrOnce},
		{slices.Concat(many(1), many(301)), api.ErrOnce},
		{slices.Concat(many(300), many(300)), api.ErrOnce},
		{slices.Concat(many(300), many(1)), api.ErrOnce},
	} {
		if x, err := table.New(c.list...); x != nil || err != c.want {
			t.Errorf("%d: %v %d, not %d", i, x, err, c.want)
		}
	}
}

// P6.1: Put, of one that comes to the others at each place, and in the place of each.
func TestPut(t *testing.T) {
	all := rising()
	for i, r := range all {
		x := of(t, slices.Delete(slices.Clone(all), i, i+1)...)
		if err := x.Put(r); err != api.OK {
			t.Fatalf("%v: %d", r, err)
		}
		holds(t, x, all)
		for _, other := range []api.Route{way(r.To, 0, 0), way(r.To, 65534, r.Seq), way(r.To, r.Metric, math.MaxUint32), r} {
			if err := x.Put(other); err != api.OK {
				t.Fatalf("%v: %d", other, err)
			}
			want := slices.Clone(all)
			want[i] = other
			holds(t, x, want)
		}
	}
}

// P6.1: Put, up to 300 and beyond, and of one that is there in a table that is full.
func TestPutInAFullTable(t *testing.T) {
	x := of(t)
	list := many(302)
	for i, r := range list[:300] {
		if err := x.Put(r); err != api.OK {
			t.Fatalf("%d: %d", i, err)
		}
	}
	holds(t, x, list[:300])
	for _, r := range []api.Route{list[300], list[301], way(api.Prefix{}, 0, 0), way(four(20, 0, 0, 0, 25), 0, 0)} {
		if err := x.Put(r); err != api.ErrBig {
			t.Errorf("%v: %d", r, err)
		}
	}
	if err := x.Put(way(list[300].To, -1, 0)); err != api.ErrArg {
		t.Error(err)
	}
	holds(t, x, list[:300])
	for _, i := range []int{0, 150, 299} {
		list[i].Metric, list[i].Seq = 65534, 9
		if err := x.Put(list[i]); err != api.OK {
			t.Errorf("%d: %d", i, err)
		}
	}
	holds(t, x, list[:300])
	if x.Drop(list[7].To) != api.OK || x.Put(list[300]) != api.OK || x.Put(list[301]) != api.ErrBig {
		t.Error(x.Len())
	}
	holds(t, x, slices.Delete(list[:301], 7, 8))
}

// P6.1, and rule 3: what Put refuses changes nothing.
func TestPutRefuses(t *testing.T) {
	x := of(t, rising()...)
	for _, r := range wrongs() {
		if err := x.Put(r); err != api.ErrArg {
			t.Errorf("%v: %d", r, err)
		}
	}
	holds(t, x, rising())
}

// P6.1: Drop, of each one, and then of it again; of one that was never there, and of those that may not be.
func TestDrop(t *testing.T) {
	for i, r := range rising() {
		x := of(t, rising()...)
		want := slices.Delete(rising(), i, i+1)
		if err := x.Drop(r.To); err != api.OK {
			t.Fatalf("%v: %d", r, err)
		}
		holds(t, x, want)
		for _, p := range append(wrongPrefixes(), r.To, four(10, 2, 0, 0, 16), six("\x0a", 9)) {
			if err := x.Drop(p); err != api.ErrNone {
				t.Fatalf("%v: %d", p, err)
			}
			if got, there := x.Get(p); got != (api.Route{}) || there {
				t.Fatalf("%v: %v %v", p, got, there)
			}
		}
		holds(t, x, want)
	}
	x := of(t)
	if err := x.Drop(api.Prefix{}); err != api.ErrNone {
		t.Error(err)
	}
}

// P6.1: the last one may go, and others come again.
func TestDropAll(t *testing.T) {
	x := of(t, many(300)...)
	for _, r := range many(300) {
		if err := x.Drop(r.To); err != api.OK {
			t.Fatal(err)
		}
	}
	holds(t, x, nil)
	if err := x.Put(rising()[3]); err != api.OK {
		t.Error(err)
	}
	holds(t, x, rising()[3:4])
}
