package table_test

import (
	"slices"
	"testing"

	"signpost/api"
	"signpost/table"
)

// P6.3: Between, of each two routes that are in order: those from the one up to the other one, that one left out.
func TestBetween(t *testing.T) {
	all := rising()
	x := of(t, all...)
	for i, a := range all {
		for j, b := range all {
			var want []api.Route
			if i < j {
				want = all[i:j]
			}
			if got := x.Between(a.To, b.To); !slices.Equal(got, want) {
				t.Errorf("%v %v: %v", a.To, b.To, got)
			}
		}
	}
}

// P6.3: Between, where neither of the two is there: each two of all, in a table of the others.
func TestBetweenOfOthers(t *testing.T) {
	all := rising()
	for i, a := range all {
		for j := i; j < len(all); j++ {
			rest := slices.DeleteFunc(rising(), func(r api.Route) bool { return r.To == a.To || r.To == all[j].To })
			var want []api.Route
			if i < j {
				want = all[i+1 : j]
			}
			x := of(t, rest...)
			if got := x.Between(a.To, all[j].To); !slices.Equal(got, want) {
				t.Errorf("%v %v: %v", a.To, all[j].To, got)
			}
			if got := x.Between(all[j].To, a.To); len(got) != 0 {
				t.Errorf("%v %v: %v", all[j].To, a.To, got)
			}
		}
	}
}

// P6.3: Between, of prefixes that may not be, which have their places in the order too; and of a table without routes.
func TestBetweenOfWrongOnes(t *testing.T) {
	all := rising()
	x := of(t, all...)
	first, last := four(0, 0, 0, 0, -1), six(string(slices.Repeat([]byte{255}, 16)), 999)
	if got := x.Between(first, last); !slices.Equal(got, all) {
		t.Errorf("%v", got)
	}
	if got := x.Between(last, first); len(got) != 0 {
		t.Errorf("%v", got)
	}
	if got := x.Between(four(10, 0, 0, 0, 33), four(10, 1, 0, 0, 3)); !slices.Equal(got, all[7:8]) {
		t.Errorf("%v", got)
	}
	if got := of(t).Between(first, last); len(got) != 0 {
		t.Errorf("%v", got)
	}
}

// P6.3: a table and its copy know nothing of each other, whichever of them changes, however.
func TestCopy(t *testing.T) {
	for _, all := range [][]api.Route{rising(), rising()[:4], many(299)} {
		for change := range 4 {
			for turned := range 2 {
				a := of(t, all...)
				pair := []*table.Table{a, a.Copy()}
				changed, kept := pair[turned], pair[1-turned]
				last := all[len(all)-1].To
				switch change {
				case 0:
					changed.Drop(all[1].To)
				case 1:
					changed.Put(way(all[1].To, 777, 7))
				case 2:
					changed.Do(api.Inc{Kind: api.IWithdraw, Route: api.Route{To: last}})
					changed.Put(way(last, 778, 8))
				case 3:
					changed.Put(way(four(0, 128, 0, 0, 9), 779, 9))
				}
				holds(t, kept, all)
				if table.Same(changed, kept) {
					t.Errorf("%d: nothing changed", change)
				}
			}
		}
	}
}

// P6.3: both may be filled up one beside the other.
func TestCopiesFilledUp(t *testing.T) {
	list := many(300)
	a := of(t, list[:100]...)
	b, c := a.Copy(), *a
	for i := range 200 {
		a.Put(list[100+i])
		b.Put(list[299-i])
		c.Put(way(list[100+i].To, 5, 5))
	}
	holds(t, a, list)
	holds(t, b, list)
	for i := range 200 {
		list[100+i] = way(list[100+i].To, 5, 5)
	}
	holds(t, &c, list)
}

// P6.3, and rule 5: what was answered stays as it was when the table changes, and the table when that is written to.
func TestAnswersAreNewMemory(t *testing.T) {
	all := rising()
	x := of(t, all...)
	y := of(t, way(all[0].To, 50, 50))
	rows, some, incs := x.All(), x.Between(all[2].To, all[9].To), table.Changes(y, x)
	again := table.Changes(y, x)
	for _, r := range all {
		x.Put(way(r.To, 60, 60))
	}
	y.Drop(all[0].To)
	if !slices.Equal(rows, all) || !slices.Equal(some, all[2:9]) || !slices.Equal(incs, again) {
		t.Error("an answer changed")
	}
	x = of(t, all...)
	c := x.Copy()
	clear(x.All())
	clear(x.Between(all[0].To, all[17].To))
	clear(table.Changes(nil, x))
	list := x.Between(all[0].To, all[5].To)
	_ = append(list, way(api.Prefix{}, 1, 1))
	_ = append(x.All(), way(api.Prefix{}, 1, 1))
	holds(t, x, all)
	holds(t, c, all)
}

// P6.3
func TestSame(t *testing.T) {
	all := rising()
	a := of(t, all...)
	back := slices.Clone(all)
	slices.Reverse(back)
	if !table.Same(a, a) || !table.Same(a, of(t, back...)) || !table.Same(a, a.Copy()) || !table.Same(of(t), of(t)) {
		t.Error("they are the same")
	}
	for i, r := range all {
		less := of(t, slices.Delete(slices.Clone(all), i, i+1)...)
		farther, newer := a.Copy(), a.Copy()
		farther.Put(way(r.To, r.Metric+1, r.Seq))
		newer.Put(way(r.To, r.Metric, r.Seq+1))
		elsewhere := less.Copy()
		elsewhere.Put(way(four(77, 0, 0, 0, 8), r.Metric, r.Seq))
		for _, b := range []*table.Table{less, farther, newer, elsewhere, of(t)} {
			if table.Same(a, b) || table.Same(b, a) {
				t.Errorf("%v: %v is the same", r, b.All())
			}
		}
	}
}

// P6.3: how a table came about isn't to be seen.
func TestSameByOtherWays(t *testing.T) {
	a, b := of(t, many(20)...), of(t)
	for _, r := range slices.Backward(many(300)) {
		b.Put(way(r.To, 1, 1))
	}
	for _, r := range many(300)[20:] {
		b.Drop(r.To)
	}
	for _, r := range many(20) {
		b.Put(r)
	}
	if !table.Same(a, b) || len(table.Changes(a, b)) != 0 {
		t.Error(table.Changes(a, b))
	}
}

// P6.3: the example.
func TestChangesExample(t *testing.T) {
	a, b, c := four(10, 0, 0, 0, 8), four(11, 0, 0, 0, 8), four(12, 0, 0, 0, 8)
	got := table.Changes(of(t, way(a, 1, 1), way(b, 2, 1)), of(t, way(b, 3, 2), way(c, 4, 3)))
	want := []api.Inc{change(api.IWithdraw, way(a, 0, 0)), change(api.IChange, way(b, 3, 2)), change(api.IAdd, way(c, 4, 3))}
	if !slices.Equal(got, want) {
		t.Errorf("%v", got)
	}
}

// P6.3: changes of a table and itself, of tables without routes, of one alone, of a number alone.
func TestChangesAtEdges(t *testing.T) {
	all := rising()
	a := of(t, all...)
	var adds, withdrawals []api.Inc
	for _, r := range all {
		adds = append(adds, change(api.IAdd, r))
		withdrawals = append(withdrawals, change(api.IWithdraw, way(r.To, 0, 0)))
	}
	for i, c := range []struct {
		a, b *table.Table
		want []api.Inc
	}{
		{a, a, nil}, {a, a.Copy(), nil}, {of(t), of(t), nil}, {nil, nil, nil}, {nil, of(t), nil}, {of(t), nil, nil},
		{of(t), a, adds}, {nil, a, adds}, {a, of(t), withdrawals}, {a, nil, withdrawals},
		{of(t, all[3]), of(t, way(all[3].To, all[3].Metric, 9)), []api.Inc{change(api.IChange, way(all[3].To, all[3].Metric, 9))}},
		{of(t, all[3]), of(t, way(all[3].To, 9, all[3].Seq)), []api.Inc{change(api.IChange, way(all[3].To, 9, all[3].Seq))}},
		{of(t, all[4]), of(t, all[3]), []api.Inc{adds[3], withdrawals[4]}},
		{of(t, all[3]), of(t, all[4]), []api.Inc{withdrawals[3], adds[4]}},
	} {
		if got := table.Changes(c.a, c.b); !slices.Equal(got, c.want) {
			t.Errorf("%d: %v", i, got)
		}
	}
}

// P6.3: done on the one they make the other, but where the table is full on the way.
func TestChangesDone(t *testing.T) {
	full, other := many(300), many(300)
	other[299] = way(api.Prefix{}, 1, 1)
	a, b := of(t, full...), of(t, other...)
	list := table.Changes(a, b)
	if len(list) != 2 || list[0].Kind != api.IAdd || list[1].Kind != api.IWithdraw {
		t.Fatalf("%v", list)
	}
	if err := a.Do(list[0]); err != api.ErrBig {
		t.Error(err)
	}
	for _, i := range table.Changes(b, a) {
		if err := b.Do(i); err != api.OK {
			t.Error(err)
		}
	}
	if !table.Same(a, b) {
		t.Error("they differ")
	}
}

// P6.3: a table that is nil.
func TestNil(t *testing.T) {
	var none *table.Table
	for _, r := range append(wrongs(), rising()...) {
		errs := []api.Errno{none.Put(r), none.Drop(r.To)}
		for kind := range 5 {
			errs = append(errs, none.Do(change(kind, r)))
		}
		for i, err := range errs {
			if err != api.ErrNil {
				t.Errorf("%v, %d: %d", r, i, err)
			}
		}
		if got, there := none.Get(r.To); got != (api.Route{}) || there {
			t.Errorf("%v %v", got, there)
		}
		if none.Between(api.Prefix{}, r.To) != nil || none.Between(r.To, r.To) != nil {
			t.Error("routes of no table")
		}
	}
	if none.Len() != 0 || none.All() != nil || none.Copy() != nil {
		t.Error("a nil table has something")
	}
	if !table.Same(nil, nil) || !table.Same(none, of(t)) || !table.Same(of(t), none) || table.Same(none, of(t, rising()[0])) || table.Same(of(t, rising()[0]), none) {
		t.Error("a nil table is one without routes")
	}
}

// P6.1: a table that nobody made has no routes, and takes some.
func TestZeroTable(t *testing.T) {
	var x table.Table
	holds(t, &x, nil)
	if x.Drop(api.Prefix{}) != api.ErrNone || x.Put(rising()[1]) != api.OK || x.Put(rising()[0]) != api.OK {
		t.Error(x.All())
	}
	holds(t, &x, rising()[:2])
}
