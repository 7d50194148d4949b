package incr_test

import (
	"fmt"
	"slices"
	"strings"
	"testing"

	"signpost/api"
	"signpost/incr"
)

// rank: a prefix as a text, so that texts come in the order of their prefixes.
func rank(p api.Prefix) string { return fmt.Sprintf("%t %x %03d", p.Six, p.Addr, p.Len) }

// outcome: what becomes of a prefix by its changes, which are told by their kinds and the last route; false, if two of them don't follow.
func outcome(kinds string, last api.Route) ([]api.Inc, bool) {
	for _, pair := range []string{"11", "21", "32", "33"} {
		if strings.Contains(kinds, pair) {
			return nil, false
		}
	}
	was, is := kinds[0] != '1', kinds[len(kinds)-1] != '3'
	switch {
	case was && is:
		return row(change(last.To, last.Metric, last.Seq)), true
	case was && !is:
		return row(withdraw(last.To)), true
	case !was && is:
		return row(add(last.To, last.Metric, last.Seq)), true
	}
	return nil, true
}

// mergeJudged: what Merge should answer, by the chapter's words, prefix by prefix.
func mergeJudged(a, b []api.Inc) ([]api.Inc, api.Errno) {
	list := slices.Concat(a, b)
	kinds, last := map[string]string{}, map[string]api.Route{}
	for _, i := range list {
		if !may(i) {
			return nil, api.ErrArg
		}
		kinds[rank(i.Route.To)] += fmt.Sprint(i.Kind)
		last[rank(i.Route.To)] = i.Route
	}
	var keys []string
	for key := range kinds {
		keys = append(keys, key)
	}
	slices.Sort(keys)
	var merged []api.Inc
	for _, key := range keys {
		one, follow := outcome(kinds[key], last[key])
		if !follow {
			return nil, api.ErrArg
		}
		merged = append(merged, one...)
	}
	return merged, api.OK
}

// holdMerge holds Merge against the judge, and that it leaves what it is given.
func holdMerge(t *testing.T, a, b []api.Inc) ([]api.Inc, api.Errno) {
	t.Helper()
	wasA, wasB := slices.Clone(a), slices.Clone(b)
	want, wrong := mergeJudged(a, b)
	merged, err := incr.Merge(a, b)
	if !slices.Equal(a, wasA) || !slices.Equal(b, wasB) {
		t.Fatalf("%v and %v: what was given was changed", wasA, wasB)
	}
	if err != wrong || !slices.Equal(merged, want) {
		t.Fatalf("%v and %v: %v, error %d; not %v, error %d", a, b, merged, err, want, wrong)
	}
	return merged, err
}

// P8.3: what two rows come to.
func TestMerge(t *testing.T) {
	a, b, c := four(10, 0, 0, 0, 8), four(10, 1, 0, 0, 16), six("\x0a", 8)
	for i, test := range []struct{ one, two, want []api.Inc }{
		// The examples.
		{row(add(a, 1, 0)), row(change(a, 2, 0)), row(add(a, 2, 0))},
		{row(add(a, 1, 0)), row(withdraw(a)), nil},
		// Nothing.
		{nil, nil, nil},
		{[]api.Inc{}, nil, nil},
		// One alone stays.
		{row(add(a, 1, 2)), nil, row(add(a, 1, 2))},
		{nil, row(change(a, 1, 2)), row(change(a, 1, 2))},
		{row(withdraw(a)), []api.Inc{}, row(withdraw(a))},
		// The other pairs that follow.
		{row(change(a, 1, 2)), row(change(a, 3, 4)), row(change(a, 3, 4))},
		{row(change(a, 1, 2)), row(withdraw(a)), row(withdraw(a))},
		{row(withdraw(a)), row(add(a, 3, 4)), row(change(a, 3, 4))},
		// A change to the same stays one, and a change back too: what was there isn't known.
		{row(change(a, 1, 2)), row(change(a, 1, 2)), row(change(a, 1, 2))},
		{row(withdraw(a)), row(add(a, 0, 0)), row(change(a, 0, 0))},
		// In the order of the prefixes, not of the rows.
		{row(change(c, 1, 0), add(b, 2, 0)), row(withdraw(a)), row(withdraw(a), add(b, 2, 0), change(c, 1, 0))},
		{row(withdraw(b), withdraw(a)), nil, row(withdraw(a), withdraw(b))},
		{nil, row(withdraw(c), withdraw(b), withdraw(a)), row(withdraw(a), withdraw(b), withdraw(c))},
		// Several of one prefix, in one row and over two.
		{row(add(a, 1, 1), withdraw(a), add(a, 2, 2), change(a, 3, 3)), row(change(a, 4, 4)), row(add(a, 4, 4))},
		{row(withdraw(a), add(a, 1, 1), withdraw(a)), row(add(a, 2, 2), withdraw(a)), row(withdraw(a))},
		{row(add(a, 1, 1), change(b, 1, 1), withdraw(a)), row(add(a, 2, 2), withdraw(a), withdraw(b)), row(withdraw(b))},
		{nil, row(add(a, 1, 1), change(a, 2, 2), withdraw(a)), nil},
	} {
		merged, err := incr.Merge(test.one, test.two)
		if err != api.OK || !slices.Equal(merged, test.want) {
			t.Errorf("%d: %v, error %d", i, merged, err)
		}
		holdMerge(t, test.one, test.two)
	}
}

// P8.3: two of one prefix that don't follow: within one row, from one to the other, next to each other or not.
func TestMergeOfWhatDoesNotFollow(t *testing.T) {
	p, q := four(10, 0, 0, 0, 8), four(10, 0, 0, 0, 9)
	other := row(add(q, 1, 1), change(q, 2, 2), withdraw(q))
	for i, pair := range [][2]api.Inc{
		{add(p, 1, 1), add(p, 1, 1)}, {add(p, 1, 1), add(p, 2, 2)}, {change(p, 1, 1), add(p, 1, 1)}, {change(p, 1, 1), add(p, 2, 2)},
		{withdraw(p), change(p, 1, 1)}, {withdraw(p), change(p, 0, 0)}, {withdraw(p), withdraw(p)},
	} {
		for _, c := range [][2][]api.Inc{
			{pair[:1], pair[1:]}, {pair[:], nil}, {nil, pair[:]},
			{append(pair[:1:1], other...), pair[1:]}, {pair[:1], append(slices.Clone(other), pair[1])},
			{slices.Concat(pair[:1], other, pair[1:]), nil}, {nil, slices.Concat(pair[:1], other, pair[1:])}, {other, pair[:]},
		} {
			if merged, err := incr.Merge(c[0], c[1]); len(merged) != 0 || err != api.ErrArg {
				t.Errorf("%d: %v and %v: %v, error %d", i, c[0], c[1], merged, err)
			}
			holdMerge(t, c[0], c[1])
		}
	}
	// Prefixes that have an address, a length or a kind in common are still unlike.
	for _, list := range [][]api.Inc{row(add(p, 1, 1), add(q, 1, 1)), row(withdraw(p), withdraw(six("\x0a", 8))), row(withdraw(p), change(four(11, 0, 0, 0, 8), 1, 1))} {
		if _, err := holdMerge(t, list[:1], list[1:]); err != api.OK {
			t.Errorf("%v: error %d", list, err)
		}
	}
}

// P8.3: all rows of one prefix up to five changes, cut in two at each place.
func TestMergeOfAllKinds(t *testing.T) {
	p := six("\x20\x01", 16)
	follow := 0
	lists := [][]api.Inc{nil}
	for n := range 5 {
		var next [][]api.Inc
		for _, list := range lists {
			for _, i := range row(add(p, n, 1), change(p, n, 2), withdraw(p)) {
				next = append(next, append(slices.Clone(list), i))
			}
		}
		lists = next
		for _, list := range lists {
			for cut := range len(list) + 1 {
				if _, err := holdMerge(t, list[:cut], list[cut:]); err == api.OK {
					follow++
				}
			}
		}
	}
	if follow < 100 {
		t.Error(follow)
	}
}

// P8.3: changes that may not be, in each row, at each place; also where the prefix would else be none of those that are told.
func TestMergeOfWrongChanges(t *testing.T) {
	for _, i := range wrongChanges() {
		for at := range 4 {
			list := slices.Insert(adds(3), at, i)
			for _, c := range [][2][]api.Inc{{list, nil}, {nil, list}, {list, row(withdraw(nth(1)))}, {row(withdraw(nth(1))), list}, {list[:at], list[at:]}} {
				if merged, err := incr.Merge(c[0], c[1]); len(merged) != 0 || err != api.ErrArg {
					t.Errorf("%v at %d: %v, error %d", i, at, merged, err)
				}
			}
		}
		// One that would go again, if it might be.
		for _, list := range [][]api.Inc{row(add(i.Route.To, 1, 1), i), row(i, withdraw(i.Route.To)), row(i, i)} {
			if merged, err := incr.Merge(list[:1], list[1:]); len(merged) != 0 || err != api.ErrArg {
				t.Errorf("%v: %v, error %d", list, merged, err)
			}
		}
	}
}

// P8.3: several wrong things at once, in one row and in both.
func TestMergeOfSeveralWrongThings(t *testing.T) {
	twice := row(add(nth(1), 1, 1), add(nth(1), 1, 1))
	for _, i := range wrongChanges() {
		for _, c := range [][2][]api.Inc{{twice, row(i)}, {row(i), twice}, {append(row(i), twice...), nil}, {row(i), row(i)}} {
			if merged, err := incr.Merge(c[0], c[1]); len(merged) != 0 || err != api.ErrArg {
				t.Errorf("%v and %v: %v, error %d", c[0], c[1], merged, err)
			}
		}
	}
}

// P8.3: more changes than a row's bytes may tell of are merged all the same, to as many as there are prefixes.
func TestMergeOfMany(t *testing.T) {
	one := adds(500)
	slices.Reverse(one)
	merged, err := holdMerge(t, one, nil)
	if err != api.OK || !slices.Equal(merged, adds(500)) {
		t.Errorf("%d changes, error %d", len(merged), err)
	}
	var two []api.Inc
	for i := range 500 {
		two = append(two, change(nth(i), 7, 7), withdraw(nth(i)))
	}
	if merged, err := holdMerge(t, one, two); err != api.OK || len(merged) != 0 {
		t.Errorf("%d changes, error %d", len(merged), err)
	}
	if merged, err := holdMerge(t, one, two[:len(two)-1]); err != api.OK || !slices.Equal(merged, row(add(nth(499), 7, 7))) {
		t.Errorf("%d changes, error %d", len(merged), err)
	}
}

// Rules 5 and 7: the rows stay as they are, with their spare room; the answer is new, and the same each time.
func TestMergeLeavesTheRows(t *testing.T) {
	room := adds(20)
	slices.Reverse(room)
	list := slices.Clone(room)
	first, err := incr.Merge(list[:5], list[10:15])
	if err != api.OK || !slices.Equal(list, room) {
		t.Fatalf("error %d, or the rows were changed", err)
	}
	for range 20 {
		again, err := incr.Merge(list[:5], list[10:15])
		if err != api.OK || !slices.Equal(again, first) {
			t.Fatalf("%v, error %d; not %v", again, err, first)
		}
		clear(again)
	}
	clear(first)
	if !slices.Equal(list, room) {
		t.Error("the answer is the rows' memory")
	}
}
