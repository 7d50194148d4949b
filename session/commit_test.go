package session_test

import (
	"slices"
	"strings"
	"testing"

	"signpost/api"
	"signpost/dump"
	"signpost/incr"
	"signpost/lz"
	"signpost/session"
	"signpost/table"
)

// judged: what a table is behind what was sent, by the chapter's words; a right one is that of the judge's own calls.
func judged(x *table.Table, s string) (*table.Table, api.Errno) {
	if len(s) == 0 {
		return x, api.ErrShort
	}
	if s[0] == 1 {
		y, err := dump.Unpack(s[1:])
		if err != api.OK {
			return x, err
		}
		return y, api.OK
	}
	if s[0] != 2 {
		return x, api.ErrForm
	}
	row, err := lz.Unpack(s[1:], 65536)
	if err != api.OK {
		return x, err
	}
	list, err := incr.Read(row)
	if err != api.OK {
		return x, err
	}
	y := x.Copy()
	for _, i := range list {
		if err := y.Do(i); err != api.OK {
			return x, err
		}
	}
	return y, api.OK
}

// expectCopy holds what a copy has, and how many commits there were.
func expectCopy(t *testing.T, c *session.Copy, x *table.Table, commits int) {
	t.Helper()
	y := c.Table()
	if y == nil || !table.Same(x, y) || c.Commits() != commits {
		t.Fatalf("%v, %d commits; not %v, %d", y.All(), c.Commits(), x.All(), commits)
	}
}

// commit holds what becomes of a copy of a table, by the judge; the table behind it.
func commit(t *testing.T, c *session.Copy, x *table.Table, s string) (*table.Table, api.Errno) {
	t.Helper()
	n := c.Commits()
	y, want := judged(x, s)
	if err := c.Commit(s); err != want {
		t.Fatalf("%x: error %d, not %d", s, err, want)
	}
	if want == api.OK {
		n++
	}
	expectCopy(t, c, y, n)
	return y, want
}

// expectCommit holds what a commit answers, by hand and by the judge; the table behind it.
func expectCommit(t *testing.T, c *session.Copy, x *table.Table, s string, want api.Errno) *table.Table {
	t.Helper()
	y, err := commit(t, c, x, s)
	if err != want {
		t.Fatalf("%x: error %d, not %d", s, err, want)
	}
	return y
}

// copyOf: a copy into which a table was committed.
func copyOf(t *testing.T, x *table.Table) *session.Copy {
	t.Helper()
	c := session.NewCopy()
	expectCommit(t, c, &table.Table{}, full(t, x), api.OK)
	return c
}

// P16.1: a new one is of no routes, and nothing was done; each is its own.
func TestNewCopy(t *testing.T) {
	a, b := session.NewCopy(), session.NewCopy()
	expectCopy(t, a, tableOf(t), 0)
	expectCommit(t, a, tableOf(t), full(t, tableOf(t, routes(3)...)), api.OK)
	expectCopy(t, b, tableOf(t), 0)
	expectCopy(t, session.NewCopy(), tableOf(t), 0)
}

// P16.1: a whole table takes the place of the one ahead, whichever that is.
func TestCommitOfTables(t *testing.T) {
	c, x := session.NewCopy(), tableOf(t)
	for round := range 2 {
		for i, y := range rightTables(t) {
			x = expectCommit(t, c, x, full(t, y), api.OK)
			if !table.Same(x, y) || c.Commits() != round*len(rightTables(t))+i+1 {
				t.Fatalf("%d routes, %d commits", x.Len(), c.Commits())
			}
		}
	}
}

// P16.1: the same table once more is a commit like any other.
func TestCommitOfTheSame(t *testing.T) {
	x := tableOf(t, routes(7)...)
	c := copyOf(t, x)
	for n := 2; n < 5; n++ {
		expectCommit(t, c, x, full(t, x), api.OK)
		expectCopy(t, c, x, n)
	}
}

// P16.1: changes are done on the table that is there, row by row.
func TestCommitOfChanges(t *testing.T) {
	ten, nine := four(10, 0, 0, 0, 8), six("\x09", 8)
	c := session.NewCopy()
	x := expectCommit(t, c, tableOf(t), part(t, row(add(ten, 1, 2), add(nine, 3, 4))), api.OK)
	x = expectCommit(t, c, x, part(t, row(change(ten, 5, 6), withdraw(nine))), api.OK)
	if !slices.Equal(c.Table().All(), []api.Route{way(ten, 5, 6)}) {
		t.Errorf("%v", c.Table().All())
	}
	x = expectCommit(t, c, x, part(t, row(withdraw(ten), add(ten, 7, 8), change(ten, 9, 9))), api.OK)
	x = expectCommit(t, c, x, part(t, nil), api.OK)
	if !slices.Equal(c.Table().All(), []api.Route{way(ten, 9, 9)}) || c.Commits() != 4 {
		t.Errorf("%v, %d commits", c.Table().All(), c.Commits())
	}
	x = expectCommit(t, c, x, part(t, row(withdraw(ten))), api.OK)
	expectCopy(t, c, tableOf(t), 5)
	expectCommit(t, c, x, full(t, tableOf(t, routes(2)...)), api.OK)
	expectCopy(t, c, tableOf(t, routes(2)...), 6)
}

// P16.1: up to a full table, and back to one of no routes.
func TestCommitOfManyChanges(t *testing.T) {
	c := session.NewCopy()
	x := expectCommit(t, c, tableOf(t), part(t, adds(200)), api.OK)
	x = expectCommit(t, c, x, part(t, adds(300)[200:]), api.OK)
	expectCopy(t, c, tableOf(t, routes(300)...), 2)
	x = expectCommit(t, c, x, part(t, row(withdraw(nth(299)), add(nth(300), 1, 1), add(nth(301), 1, 1))), api.ErrBig)
	x = expectCommit(t, c, x, part(t, row(withdraw(nth(299)), add(nth(299), 1, 1), change(nth(0), 1, 1))), api.OK)
	x = expectCommit(t, c, x, part(t, withdraws(200)), api.OK)
	expectCommit(t, c, x, part(t, withdraws(300)[200:]), api.OK)
	expectCopy(t, c, tableOf(t), 5)
}

// refusals: what is no commit of a table of three routes, and its error.
func refusals(t *testing.T) map[string]api.Errno {
	t.Helper()
	all := map[string]api.Errno{
		"": api.ErrShort, "\x01": api.ErrShort, "\x02": api.ErrShort,
		"\x00": api.ErrForm, "\x03": api.ErrForm, "\x09": api.ErrForm, "1": api.ErrForm, "2": api.ErrForm, "\x81": api.ErrForm, "\x82": api.ErrForm, "\xff": api.ErrForm,
		// What is behind another byte doesn't matter.
		"\x00" + full(t, tableOf(t))[1:]: api.ErrForm, "\x03" + part(t, adds(4)[3:])[1:]: api.ErrForm, "\x00\x01": api.ErrForm, "\x03\x02": api.ErrForm,
		// A dump is no row, and a row no dump.
		"\x02" + full(t, tableOf(t, routes(2)...))[1:]: api.ErrForm, "\x01" + part(t, adds(2))[1:]: api.ErrForm,
		// Packed bytes that go on.
		full(t, tableOf(t, routes(2)...)) + "\x00": api.ErrForm, part(t, adds(4)[3:]) + "\x00": api.ErrForm,
		// More than there may be.
		"\x01" + packed(t, "\xad\x02"): api.ErrBig, "\x02" + packed(t, "\xc9\x01"): api.ErrBig,
		"\x01" + lz.Print(65537, nil): api.ErrBig, "\x02" + lz.Print(65537, nil): api.ErrBig,
		"\x01" + packed(t, ""): api.ErrShort, "\x02" + packed(t, ""): api.ErrShort,
		// As many bytes as there may be are asked: those behind the number are too many.
		"\x01" + packed(t, strings.Repeat("\x00", 65536)): api.ErrForm, "\x02" + packed(t, strings.Repeat("\x00", 65536)): api.ErrForm,
	}
	// Of 10/8 a metric of 65535; behind it 9/8.
	all["\x01"+packed(t, "\x01\x00\x02\x08\x0a\xff\xff\x03\x00")] = api.ErrArg
	all["\x01"+packed(t, "\x02\x00\x02\x08\x0a\x01\x00\x01\x01\x09\x01\x00")] = api.ErrOrder
	// The same metric, another kind, and a number of 2^32.
	all["\x02"+packed(t, "\x01\x01\x08\x0a\xff\xff\x03\x00")] = api.ErrArg
	all["\x02"+packed(t, "\x01\x04\x08\x0a\x01\x00")] = api.ErrForm
	all["\x02"+packed(t, "\x01\x01\x08\x0a\x01\x80\x80\x80\x80\x10")] = api.ErrBig
	// What the table refuses.
	all[part(t, row(withdraw(nth(0)), add(nth(1), 1, 1)))] = api.ErrOnce
	all[part(t, row(change(nth(0), 1, 1), add(nth(7), 1, 1), change(nth(8), 1, 1), add(nth(0), 1, 1)))] = api.ErrNone
	all[part(t, row(add(nth(9), 1, 1), withdraw(nth(3))))] = api.ErrNone
	return all
}

// P16.1: each error of a commit; it leaves the copy, and its count, as they were.
func TestCommitRefuses(t *testing.T) {
	x := tableOf(t, routes(3)...)
	c, empty := copyOf(t, x), session.NewCopy()
	for s, want := range refusals(t) {
		expectCommit(t, c, x, s, want)
		commit(t, session.NewCopy(), tableOf(t), s)
		if want == api.ErrForm || want == api.ErrShort {
			expectCommit(t, empty, tableOf(t), s, want)
		}
	}
	expectCopy(t, c, x, 1)
	expectCopy(t, empty, tableOf(t), 0)
	expectCommit(t, c, x, part(t, row(withdraw(nth(2)))), api.OK)
	expectCopy(t, c, tableOf(t, routes(2)...), 2)
}

// P16.1: a row that is refused at its last change has done none of those ahead.
func TestCommitIsAllOrNothing(t *testing.T) {
	x := tableOf(t, routes(100)...)
	c := copyOf(t, x)
	list := withdraws(100)
	for n := range 100 {
		expectCommit(t, c, x, part(t, append(slices.Clone(list[:n+1]), list[n])), api.ErrNone)
	}
	expectCopy(t, c, x, 1)
}

// P16.1 and P2 of the whole: what is sent, cut anywhere, commits nothing; what has a byte that is another one, as the judge tells.
func TestCommitOfHurtBytes(t *testing.T) {
	x := tableOf(t, routes(20)...)
	c := copyOf(t, x)
	for _, s := range []string{full(t, tableOf(t, routes(4)...)), part(t, append(withdraws(3), add(nth(30), 1, 1))), part(t, nil), full(t, tableOf(t))} {
		for n := range s {
			if _, err := commit(t, c, x, s[:n]); err == api.OK {
				t.Errorf("%x, cut to %d: done", s, n)
			}
		}
		for i := range len(s) {
			for b := range 256 {
				commit(t, copyOf(t, x), x, s[:i]+string([]byte{byte(b)})+s[i+1:])
			}
		}
	}
	expectCopy(t, c, x, 1)
}

// P16.1: the table that Table answers is the caller's own, and so is each one.
func TestTableIsACopy(t *testing.T) {
	x := tableOf(t, routes(5)...)
	c := copyOf(t, x)
	one, two := c.Table(), c.Table()
	for _, i := range row(withdraw(nth(0)), change(nth(1), 7, 7), add(nth(9), 1, 1)) {
		if err := one.Do(i); err != api.OK {
			t.Fatal(err)
		}
	}
	expectCopy(t, c, x, 1)
	if !table.Same(two, x) {
		t.Errorf("%v", two.All())
	}
	y := expectCommit(t, c, x, part(t, row(change(nth(2), 8, 8))), api.OK)
	if one.Len() != 5 || table.Same(one, y) || !table.Same(two, x) {
		t.Errorf("%v and %v", one.All(), two.All())
	}
}

// P16.1: a table stays the sender's: what becomes of it behind Full is not to be seen.
func TestFullIsOfThen(t *testing.T) {
	x := tableOf(t, routes(3)...)
	s := full(t, x)
	x.Drop(nth(1))
	c := session.NewCopy()
	expectCommit(t, c, tableOf(t), s, api.OK)
	expectCopy(t, c, tableOf(t, routes(3)...), 1)
}

// Rule 6: calls of a nil *Copy.
func TestNilCopy(t *testing.T) {
	var c *session.Copy
	for _, s := range []string{"", "\x01", "\x09", full(t, tableOf(t)), part(t, nil)} {
		if err := c.Commit(s); err != api.ErrNil {
			t.Errorf("%x: error %d", s, err)
		}
	}
	if c.Table() != nil || c.Commits() != 0 {
		t.Errorf("%v, %d commits", c.Table(), c.Commits())
	}
}

// Rule 1: a copy that NewCopy didn't make is one of no routes.
func TestZeroCopy(t *testing.T) {
	c := &session.Copy{}
	expectCopy(t, c, tableOf(t), 0)
	x := expectCommit(t, c, tableOf(t), part(t, adds(3)), api.OK)
	expectCommit(t, c, x, part(t, adds(3)), api.ErrOnce)
	expectCopy(t, c, tableOf(t, routes(3)...), 1)
}
