package incr_test

import (
	"math"
	"math/rand"
	"slices"
	"testing"

	"signpost/api"
	"signpost/incr"
	"signpost/table"
)

// may: may it be a route of a table, or, withdrawn, the prefix of one?
func may(i api.Inc) bool {
	r := i.Route
	switch i.Kind {
	case api.IAdd, api.IChange:
		return table.Right(r)
	case api.IWithdraw:
		return table.Right(r) && r.Metric == 0 && r.Seq == 0
	}
	return false
}

// refused: why a change isn't done on these routes; OK, if it is.
func refused(there map[api.Prefix]api.Route, i api.Inc) api.Errno {
	_, known := there[i.Route.To]
	switch {
	case !may(i):
		return api.ErrArg
	case i.Kind == api.IAdd && known:
		return api.ErrOnce
	case i.Kind != api.IAdd && !known:
		return api.ErrNone
	case i.Kind == api.IAdd && len(there) == 300:
		return api.ErrBig
	}
	return api.OK
}

// foldJudged: what Fold should answer, by the chapter's words.
func foldJudged(x *table.Table, list []api.Inc) (map[api.Prefix]api.Route, int, api.Errno) {
	there := map[api.Prefix]api.Route{}
	for _, r := range x.All() {
		there[r.To] = r
	}
	for at, i := range list {
		if err := refused(there, i); err != api.OK {
			return nil, at, err
		}
		if i.Kind == api.IWithdraw {
			delete(there, i.Route.To)
		} else {
			there[i.Route.To] = i.Route
		}
	}
	return there, len(list), api.OK
}

// holdFold holds Fold against the judge, and that it leaves what it is given.
func holdFold(t *testing.T, x *table.Table, list []api.Inc) (*table.Table, api.Errno) {
	t.Helper()
	routes, row := x.All(), slices.Clone(list)
	want, place, wrong := foldJudged(x, list)
	y, n, err := incr.Fold(x, list)
	if !slices.Equal(x.All(), routes) || !slices.Equal(list, row) {
		t.Fatalf("%d changes: what was given was changed", len(list))
	}
	if n != place || err != wrong || (y == nil) != (err != api.OK) || x == y {
		t.Fatalf("%d changes: at %d error %d, not at %d error %d", len(list), n, err, place, wrong)
	}
	if y.Len() != len(want) {
		t.Fatalf("%d changes: %d routes, not %d", len(list), y.Len(), len(want))
	}
	for _, r := range y.All() {
		if r != want[r.To] {
			t.Fatalf("%d changes: %v, not %v", len(list), r, want[r.To])
		}
	}
	return y, err
}

// P8.2: changes are done one by one, on a copy.
func TestFold(t *testing.T) {
	a, b, c := four(10, 0, 0, 0, 8), four(10, 1, 0, 0, 16), six("\x0a", 8)
	x := of(t, way(a, 1, 0), way(b, 2, 0))
	for i, test := range []struct {
		list []api.Inc
		want []api.Route
	}{
		{nil, []api.Route{way(a, 1, 0), way(b, 2, 0)}},
		{[]api.Inc{}, []api.Route{way(a, 1, 0), way(b, 2, 0)}},
		{row(add(c, 3, 4)), []api.Route{way(a, 1, 0), way(b, 2, 0), way(c, 3, 4)}},
		{row(change(a, 65534, 7)), []api.Route{way(a, 65534, 7), way(b, 2, 0)}},
		{row(change(a, 1, 0)), []api.Route{way(a, 1, 0), way(b, 2, 0)}},
		{row(change(a, 0, math.MaxUint32)), []api.Route{way(a, 0, math.MaxUint32), way(b, 2, 0)}},
		{row(withdraw(a)), []api.Route{way(b, 2, 0)}},
		{row(withdraw(b), withdraw(a)), nil},
		{row(withdraw(a), add(a, 9, 9)), []api.Route{way(a, 9, 9), way(b, 2, 0)}},
		{row(add(c, 1, 1), change(c, 2, 2), change(c, 3, 3), withdraw(c)), []api.Route{way(a, 1, 0), way(b, 2, 0)}},
		{row(add(c, 1, 1), withdraw(b), change(a, 5, 5), change(c, 2, 2), add(b, 6, 6)), []api.Route{way(a, 5, 5), way(b, 6, 6), way(c, 2, 2)}},
	} {
		y, n, err := incr.Fold(x, test.list)
		if n != len(test.list) || err != api.OK || y == nil || !slices.Equal(y.All(), test.want) {
			t.Errorf("%d: %v, %d, error %d", i, y.All(), n, err)
		}
		holdFold(t, x, test.list)
	}
}

// P8.2: there is no table, whatever the changes are.
func TestFoldOfNil(t *testing.T) {
	for _, list := range [][]api.Inc{nil, {}, adds(1), adds(3), {{}}, {{}, {}}, append(adds(2), api.Inc{}), wrongChanges()} {
		if y, n, err := incr.Fold(nil, list); y != nil || n != 0 || err != api.ErrNil {
			t.Errorf("%d changes: %v, %d, error %d", len(list), y, n, err)
		}
	}
	if y, n, err := incr.Fold(&table.Table{}, adds(3)); y.Len() != 3 || n != 3 || err != api.OK {
		t.Errorf("%d, error %d", n, err)
	}
}

// P8.2: one that is refused, at the first place, in the midst, and at the last one: its place, its error, no table.
func TestFoldRefuses(t *testing.T) {
	there, isNot := nth(0), nth(999)
	type fault struct {
		i    api.Inc
		want api.Errno
	}
	faults := []fault{
		{add(there, 1, 1), api.ErrOnce}, {add(there, 0, 0), api.ErrOnce}, {change(isNot, 1, 1), api.ErrNone}, {withdraw(isNot), api.ErrNone},
		{add(there, 65535, 0), api.ErrArg}, {change(isNot, -1, 0), api.ErrArg}, {api.Inc{Kind: api.IWithdraw, Route: way(isNot, 1, 0)}, api.ErrArg},
	}
	for _, i := range wrongChanges() {
		faults = append(faults, fault{i, api.ErrArg})
	}
	x := of(t, routes(10)...)
	rest := row(change(nth(1), 1, 1), withdraw(nth(2)), add(nth(500), 1, 1), change(nth(500), 2, 2), withdraw(nth(3)))
	for _, f := range faults {
		for at := range len(rest) + 1 {
			list := slices.Insert(slices.Clone(rest), at, f.i)
			if y, n, err := incr.Fold(x, list); y != nil || n != at || err != f.want {
				t.Errorf("%v at %d: %v, %d, error %d, not %d", f.i, at, y, n, err, f.want)
			}
			holdFold(t, x, list)
			// Of two that are refused the one in front.
			holdFold(t, x, append(list, faults[at].i))
		}
	}
}

// P8.2: what was done ahead in the row counts, not what the table had.
func TestFoldGoesByWhatWasDone(t *testing.T) {
	a, b := nth(0), nth(5)
	x := of(t, routes(1)...)
	for i, c := range []struct {
		list []api.Inc
		at   int
		want api.Errno
	}{
		{row(withdraw(a), change(a, 1, 1)), 1, api.ErrNone},
		{row(withdraw(a), withdraw(a)), 1, api.ErrNone},
		{row(add(b, 1, 1), add(b, 1, 1)), 1, api.ErrOnce},
		{row(add(b, 1, 1), withdraw(b), change(b, 1, 1)), 2, api.ErrNone},
		{row(withdraw(a), add(a, 1, 1), add(a, 1, 1), api.Inc{}), 2, api.ErrOnce},
	} {
		if y, n, err := incr.Fold(x, c.list); y != nil || n != c.at || err != c.want {
			t.Errorf("%d: %v, %d, error %d", i, y, n, err)
		}
		holdFold(t, x, c.list)
	}
}

// P8.2: a table of 300 routes, and a change that would make 301, wherever it stands.
func TestFoldIntoAFullTable(t *testing.T) {
	more := []api.Inc{add(nth(300), 1, 1), add(nth(301), 1, 1), add(nth(302), 1, 1)}
	for n := 297; n <= 300; n++ {
		x := of(t, routes(n)...)
		room := 300 - n
		if room >= 3 {
			holdFold(t, x, more)
			continue
		}
		if y, at, err := incr.Fold(x, more); y != nil || at != room || err != api.ErrBig {
			t.Errorf("%d routes: %v, %d, error %d", n, y, at, err)
		}
		holdFold(t, x, more)
	}
	full := of(t, routes(300)...)
	for _, list := range [][]api.Inc{
		row(withdraw(nth(7)), more[0]), row(change(nth(7), 1, 1), more[0]), row(withdraw(nth(7)), more[0], more[1]),
		row(add(nth(7), 1, 1)), row(add(nth(300), 65535, 1)), row(change(nth(300), 1, 1)), row(withdraw(nth(300))),
	} {
		holdFold(t, full, list)
	}
	if y, err := holdFold(t, of(t), adds(300)); err != api.OK || y.Len() != 300 {
		t.Errorf("error %d", err)
	}
	if _, at, err := incr.Fold(of(t), adds(301)); at != 300 || err != api.ErrBig {
		t.Errorf("%d, error %d", at, err)
	}
}

// P8.2: more changes than a row's bytes may tell of are folded all the same.
func TestFoldOfManyChanges(t *testing.T) {
	var list []api.Inc
	for i := range 1000 {
		list = append(list, add(nth(i%7), i, uint32(i)), change(nth(i%7), i+1, 0))
		if i != 997 {
			list = append(list, withdraw(nth(i%7)))
		}
	}
	y, err := holdFold(t, of(t), list)
	if err != api.OK || !slices.Equal(y.All(), []api.Route{way(nth(997%7), 998, 0)}) {
		t.Errorf("%v, error %d", y.All(), err)
	}
}

// P8.2: the table that comes out knows nothing of the one that went in.
func TestFoldAnswersATableOfItsOwn(t *testing.T) {
	for _, list := range [][]api.Inc{nil, row(change(nth(1), 5, 5)), row(withdraw(nth(2)), add(nth(9), 1, 1))} {
		x := of(t, routes(4)...)
		y, _ := holdFold(t, x, list)
		then := y.All()
		if x.Put(way(nth(0), 77, 77)) != api.OK || x.Drop(nth(3)) != api.OK || !slices.Equal(y.All(), then) {
			t.Error("the new one was changed with the old one")
		}
		now := x.All()
		if y.Put(way(nth(0), 88, 88)) != api.OK || y.Put(way(nth(1), 88, 88)) != api.OK || !slices.Equal(x.All(), now) {
			t.Error("the old one was changed with the new one")
		}
	}
}

// P8.2, of many rows over few prefixes, now and then with one that may not be.
func TestFoldOfGuesses(t *testing.T) {
	source := rand.New(rand.NewSource(8))
	count := map[api.Errno]int{}
	wrong := wrongChanges()
	for range 20_000 {
		x := guessTable(source)
		list := guessRow(source, x, source.Intn(8))
		switch source.Intn(10) {
		case 0:
			list = slices.Insert(list, source.Intn(len(list)+1), wrong[source.Intn(len(wrong))])
		case 1:
			list = slices.Insert(list, source.Intn(len(list)+1), guess(source))
		}
		_, err := holdFold(t, x, list)
		count[err]++
	}
	for _, err := range []api.Errno{api.OK, api.ErrArg, api.ErrOnce, api.ErrNone} {
		if count[err] < 100 {
			t.Errorf("error %d: only %d rows", err, count[err])
		}
	}
}
