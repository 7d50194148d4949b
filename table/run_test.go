package table_test

import (
	"math/rand"
	"slices"
	"testing"

	"signpost/api"
	"signpost/table"
)

// judge: what a table should have, by prefix, in no order.
type judge map[api.Prefix]api.Route

// key: a prefix as numbers that are held against each other from the front, as the order of prefixes is told.
func key(p api.Prefix) []int {
	list := []int{0}
	if p.Six {
		list[0] = 1
	}
	for _, b := range p.Addr {
		list = append(list, int(b))
	}
	return append(list, p.Len)
}

// isAhead: does the one prefix come ahead of the other one?
func isAhead(a, b api.Prefix) bool { return slices.Compare(key(a), key(b)) < 0 }

// sorted: those that are asked for, in order.
func (j judge) sorted(asked func(p api.Prefix) bool) []api.Route {
	var list []api.Route
	for p, r := range j {
		if asked(p) {
			list = append(list, r)
		}
	}
	slices.SortFunc(list, func(a, b api.Route) int { return slices.Compare(key(a.To), key(b.To)) })
	return list
}

// mayBe: the chapter's words, where the prefixes are all of those from guess.
func mayBe(r api.Route) bool {
	return r.To.Len >= 0 && r.To.Len <= 16 && r.Metric >= 0 && r.Metric <= 65534 && (r.To.Len == 16 || r.To.Addr[1] == 0 && (r.To.Len == 8 || r.To.Addr[0] == 0 && r.To.Len == 0))
}

// guess: a route to one of some prefixes, seldom one that may not be.
func guess(source *rand.Rand, kinds int) api.Route {
	p := api.Prefix{Six: source.Intn(2) == 0, Len: 8 * source.Intn(3)}
	if p.Len > 0 {
		p.Addr[0] = byte(source.Intn(kinds))
	}
	if p.Len > 8 || source.Intn(50) == 0 {
		p.Addr[1] = byte(source.Intn(kinds))
	}
	if source.Intn(50) == 0 {
		p.Len -= 1000
	}
	return way(p, source.Intn(3)*source.Intn(32769), uint32(source.Intn(2)))
}

// do: what becomes of the judge by a change.
func (j judge) do(i api.Inc) api.Errno {
	r := i.Route
	_, there := j[r.To]
	switch i.Kind {
	case api.IAdd, api.IChange:
		switch {
		case !mayBe(r):
			return api.ErrArg
		case i.Kind == api.IAdd && there:
			return api.ErrOnce
		case i.Kind == api.IChange && !there:
			return api.ErrNone
		case !there && len(j) == 300:
			return api.ErrBig
		}
		j[r.To] = r
	case api.IWithdraw:
		switch {
		case !mayBe(way(r.To, 0, 0)), r.Metric != 0, r.Seq != 0:
			return api.ErrArg
		case !there:
			return api.ErrNone
		}
		delete(j, r.To)
	default:
		return api.ErrArg
	}
	return api.OK
}

// put: Put told by the changes that it comes to.
func (j judge) put(r api.Route) api.Errno {
	kind := api.IAdd
	if _, there := j[r.To]; there {
		kind = api.IChange
	}
	return j.do(change(kind, r))
}

// drop: what becomes of the judge when a prefix goes.
func (j judge) drop(p api.Prefix) api.Errno {
	if _, there := j[p]; !there {
		return api.ErrNone
	}
	delete(j, p)
	return api.OK
}

// run: a table and its judge are told the same, so many times.
func run(t *testing.T, source *rand.Rand, times, kinds int) (*table.Table, judge) {
	t.Helper()
	x, j := of(t), judge{}
	for range times {
		r := guess(source, kinds)
		var got, want api.Errno
		switch kind := source.Intn(11); kind {
		case 6, 7, 8, 9, 10:
			got, want = x.Put(r), j.put(r)
		case 5:
			got, want = x.Drop(r.To), j.drop(r.To)
		default:
			if kind == api.IWithdraw && source.Intn(9) > 0 {
				r = way(r.To, 0, 0)
			}
			got, want = x.Do(change(kind, r)), j.do(change(kind, r))
		}
		if got != want || x.Len() != len(j) {
			t.Fatalf("%v: %d, not %d; %d routes, not %d", r, got, want, x.Len(), len(j))
		}
		there, ok := x.Get(r.To)
		if had, has := j[r.To]; there != had || ok != has {
			t.Fatalf("%v: %v %v", r.To, there, ok)
		}
	}
	holds(t, x, j.sorted(func(api.Prefix) bool { return true }))
	return x, j
}

// P6.1, P6.2, P6.3: in many runs, of few prefixes and of more than may be, the table answers as the judge.
func TestRuns(t *testing.T) {
	source := rand.New(rand.NewSource(61))
	full := 0
	for i := range 300 {
		x, j := run(t, source, 50+i*10, 1+i%20)
		if x.Len() == api.MaxRoutes {
			full++
		}
		from, to := guess(source, 20).To, guess(source, 20).To
		want := j.sorted(func(p api.Prefix) bool { return !isAhead(p, from) && isAhead(p, to) })
		if got := x.Between(from, to); !slices.Equal(got, want) {
			t.Fatalf("%v %v: %v, not %v", from, to, got, want)
		}
	}
	if full == 0 {
		t.Error("no table was full")
	}
}

// P6.3: the changes between any two tables are those of the judges, and make the one of the other.
func TestChangesInRuns(t *testing.T) {
	source := rand.New(rand.NewSource(62))
	for i := range 200 {
		a, had := run(t, source, i*3, 2+i%8)
		b, has := run(t, source, 200, 2+i%8)
		want := changesOf(had, has)
		list := table.Changes(a, b)
		if !slices.Equal(list, want) {
			t.Fatalf("%v, not %v", list, want)
		}
		if table.Same(a, b) != (len(want) == 0) {
			t.Fatal("Same says otherwise")
		}
		holds(t, a, had.sorted(func(api.Prefix) bool { return true }))
		for _, inc := range list {
			if err := a.Do(inc); err != api.OK {
				t.Fatalf("%v: %d", inc, err)
			}
		}
		if !table.Same(a, b) || len(table.Changes(a, b)) != 0 {
			t.Fatalf("%v makes no %v", list, b.All())
		}
	}
}

// changesOf: the changes, prefix by prefix of all that there are.
func changesOf(had, has judge) []api.Inc {
	both := judge{}
	for _, j := range []judge{had, has} {
		for p, r := range j {
			both[p] = r
		}
	}
	var list []api.Inc
	for _, r := range both.sorted(func(api.Prefix) bool { return true }) {
		old, was := had[r.To]
		fresh, is := has[r.To]
		switch {
		case !is:
			list = append(list, change(api.IWithdraw, way(r.To, 0, 0)))
		case !was:
			list = append(list, change(api.IAdd, fresh))
		case old != fresh:
			list = append(list, change(api.IChange, fresh))
		}
	}
	return list
}

// Rule 1, P6.1, P6.2 and P6.3, of runs that are made from any number.
func FuzzRuns(f *testing.F) {
	f.Add(int64(1), uint16(100), uint8(3))
	f.Add(int64(2), uint16(2000), uint8(40))
	f.Fuzz(func(t *testing.T, seed int64, times uint16, kinds uint8) {
		source := rand.New(rand.NewSource(seed))
		run(t, source, int(times), 1+int(kinds))
	})
}
