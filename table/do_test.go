package table_test

import (
	"math"
	"slices"
	"testing"

	"signpost/api"
)

// change: one of that kind.
func change(kind int, r api.Route) api.Inc { return api.Inc{Kind: kind, Route: r} }

// P6.2: each kind of change, of what is there and of what isn't.
func TestDo(t *testing.T) {
	ten, nine := four(10, 0, 0, 0, 8), four(9, 0, 0, 0, 8)
	x := of(t)
	for i, c := range []struct {
		inc  api.Inc
		want api.Errno
		then []api.Route
	}{
		{change(api.IChange, way(ten, 1, 2)), api.ErrNone, nil},
		{change(api.IWithdraw, way(ten, 0, 0)), api.ErrNone, nil},
		{change(api.IAdd, way(ten, 1, 2)), api.OK, []api.Route{way(ten, 1, 2)}},
		{change(api.IAdd, way(ten, 1, 2)), api.ErrOnce, []api.Route{way(ten, 1, 2)}},
		{change(api.IAdd, way(ten, 3, 2)), api.ErrOnce, []api.Route{way(ten, 1, 2)}},
		{change(api.IChange, way(nine, 3, 2)), api.ErrNone, []api.Route{way(ten, 1, 2)}},
		{change(api.IChange, way(ten, 1, 2)), api.OK, []api.Route{way(ten, 1, 2)}},
		{change(api.IChange, way(ten, 65534, 2)), api.OK, []api.Route{way(ten, 65534, 2)}},
		{change(api.IChange, way(ten, 0, 0)), api.OK, []api.Route{way(ten, 0, 0)}},
		{change(api.IAdd, way(nine, 65534, 5)), api.OK, []api.Route{way(nine, 65534, 5), way(ten, 0, 0)}},
		{change(api.IWithdraw, way(six("\x0a", 8), 0, 0)), api.ErrNone, []api.Route{way(nine, 65534, 5), way(ten, 0, 0)}},
		{change(api.IWithdraw, way(ten, 0, 0)), api.OK, []api.Route{way(nine, 65534, 5)}},
		{change(api.IWithdraw, way(ten, 0, 0)), api.ErrNone, []api.Route{way(nine, 65534, 5)}},
		{change(api.IWithdraw, way(nine, 0, 0)), api.OK, nil},
	} {
		if err := x.Do(c.inc); err != c.want {
			t.Errorf("%d: %d, not %d", i, err, c.want)
		}
		holds(t, x, c.then)
	}
}

// P6.2: a withdrawal tells the prefix alone.
func TestWithdrawalsWithMore(t *testing.T) {
	for _, r := range rising() {
		x := of(t, rising()...)
		for _, wrong := range []api.Route{way(r.To, 1, 0), way(r.To, 0, 1), way(r.To, -1, 0), way(r.To, 65535, 0), way(r.To, 3, 3), way(r.To, 0, math.MaxUint32)} {
			if err := x.Do(change(api.IWithdraw, wrong)); err != api.ErrArg {
				t.Errorf("%v: %d", wrong, err)
			}
		}
		holds(t, x, rising())
		if err := x.Do(change(api.IWithdraw, way(r.To, 0, 0))); err != api.OK {
			t.Errorf("%v: %d", r, err)
		}
		if _, there := x.Get(r.To); there || x.Len() != len(rising())-1 {
			t.Errorf("%v is still there", r)
		}
	}
}

// P6.2: routes that may not be, in a table that has none of them, and in one that is full.
func TestDoOfWrongRoutes(t *testing.T) {
	for _, list := range [][]api.Route{nil, rising(), many(300)} {
		x := of(t, list...)
		for _, r := range wrongs() {
			for _, kind := range []int{api.IAdd, api.IChange} {
				if err := x.Do(change(kind, r)); err != api.ErrArg {
					t.Errorf("%d %v: %d", kind, r, err)
				}
			}
		}
		for _, p := range wrongPrefixes() {
			if err := x.Do(change(api.IWithdraw, way(p, 0, 0))); err != api.ErrArg {
				t.Errorf("%v: %d", p, err)
			}
		}
		holds(t, x, list)
	}
}

// P6.2, and rule 2: of several errors the first; a table that is full takes no other prefix.
func TestDoInAFullTable(t *testing.T) {
	list := many(300)
	x := of(t, list...)
	other := way(api.Prefix{}, 4, 4)
	for i, c := range []struct {
		inc  api.Inc
		want api.Errno
	}{
		{change(api.IAdd, other), api.ErrBig},
		{change(api.IAdd, way(list[0].To, 9, 9)), api.ErrOnce},
		{change(api.IAdd, list[299]), api.ErrOnce},
		{change(api.IAdd, way(list[5].To, -1, 0)), api.ErrArg},
		{change(api.IChange, other), api.ErrNone},
		{change(api.IChange, way(other.To, 65535, 0)), api.ErrArg},
		{change(api.IWithdraw, way(other.To, 0, 0)), api.ErrNone},
		{change(api.IWithdraw, other), api.ErrArg},
	} {
		if err := x.Do(c.inc); err != c.want {
			t.Errorf("%d: %d, not %d", i, err, c.want)
		}
	}
	holds(t, x, list)
	list[200].Metric++
	if x.Do(change(api.IChange, list[200])) != api.OK || x.Do(change(api.IWithdraw, way(list[0].To, 0, 0))) != api.OK || x.Do(change(api.IAdd, other)) != api.OK {
		t.Error("refused")
	}
	list[0] = other
	holds(t, x, list)
}

// P6.2: another kind, whatever stands beside it.
func TestDoOfOtherKinds(t *testing.T) {
	x := of(t, rising()...)
	for _, kind := range []int{math.MinInt, -3, -2, -1, 0, 4, 5, 1 + 1<<32, math.MaxInt} {
		for _, r := range slices.Concat(wrongs(), rising(), many(2), []api.Route{way(rising()[2].To, 0, 0)}) {
			if err := x.Do(change(kind, r)); err != api.ErrArg {
				t.Errorf("%d %v: %d", kind, r, err)
			}
		}
	}
	holds(t, x, rising())
}
