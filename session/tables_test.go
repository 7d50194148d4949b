package session_test

import (
	"math"
	"slices"
	"strings"
	"testing"

	"signpost/api"
	"signpost/dump"
	"signpost/incr"
	"signpost/lz"
	"signpost/session"
	"signpost/table"
)

// four: a prefix of four bytes, made by hand.
func four(a, b, c, d byte, n int) api.Prefix {
	return api.Prefix{Addr: [16]byte{a, b, c, d}, Len: n}
}

// six: one of sixteen, of which these bytes come first.
func six(first string, n int) api.Prefix {
	p := api.Prefix{Six: true, Len: n}
	copy(p.Addr[:], first)
	return p
}

// way: a route to a prefix.
func way(p api.Prefix, metric int, seq uint32) api.Route {
	return api.Route{To: p, Metric: metric, Seq: seq}
}

// add, change and withdraw: a change of that kind.
func add(p api.Prefix, metric int, seq uint32) api.Inc {
	return api.Inc{Kind: api.IAdd, Route: way(p, metric, seq)}
}

func change(p api.Prefix, metric int, seq uint32) api.Inc {
	return api.Inc{Kind: api.IChange, Route: way(p, metric, seq)}
}

func withdraw(p api.Prefix) api.Inc {
	return api.Inc{Kind: api.IWithdraw, Route: api.Route{To: p}}
}

// row: changes, one behind the other.
func row(list ...api.Inc) []api.Inc { return list }

// nth: one of many unlike prefixes, in order.
func nth(i int) api.Prefix { return four(20, byte(i>>8), byte(i), 0, 24) }

// routes: so many routes to unlike prefixes, in order.
func routes(n int) []api.Route {
	list := make([]api.Route, n)
	for i := range list {
		list[i] = way(nth(i), i%300*217, uint32(i)*14_000_000)
	}
	return list
}

// adds and withdraws: so many changes of unlike prefixes, in order.
func adds(n int) []api.Inc {
	var list []api.Inc
	for _, r := range routes(n) {
		list = append(list, api.Inc{Kind: api.IAdd, Route: r})
	}
	return list
}

func withdraws(n int) []api.Inc {
	var list []api.Inc
	for i := range n {
		list = append(list, withdraw(nth(i)))
	}
	return list
}

// tableOf: a table of routes that may be.
func tableOf(t *testing.T, list ...api.Route) *table.Table {
	t.Helper()
	x, err := table.New(list...)
	if err != api.OK {
		t.Fatalf("%d routes: %d", len(list), err)
	}
	return x
}

// rightTables are some, from the smallest to the greatest.
func rightTables(t *testing.T) []*table.Table {
	t.Helper()
	var long []api.Route
	for i := range 300 {
		long = append(long, way(six(strings.Repeat(string([]byte{byte(i >> 8), byte(i), 77}), 5), 128), 65534-i, math.MaxUint32-uint32(i)))
	}
	return []*table.Table{
		tableOf(t), {}, tableOf(t, way(api.Prefix{}, 0, 0)), tableOf(t, way(six("\x20\x01", 16), 65534, math.MaxUint32)),
		tableOf(t, way(four(10, 0, 0, 0, 8), 1, 0), way(four(10, 1, 0, 0, 16), 2, 0)), tableOf(t, routes(299)...), tableOf(t, routes(300)...), tableOf(t, long...),
	}
}

// rightRows are rows that may be sent, from the shortest to the longest.
func rightRows() [][]api.Inc {
	ten := four(10, 0, 0, 0, 8)
	return [][]api.Inc{
		nil, {}, row(add(ten, 1, 0)), row(change(ten, 65534, math.MaxUint32)), row(withdraw(ten)), row(add(ten, 1, 2), change(ten, 2, 3), withdraw(ten), add(ten, 1, 1)),
		row(withdraw(six(strings.Repeat("\xff", 16), 128)), add(api.Prefix{}, 0, 0)), adds(199), adds(200), withdraws(200),
	}
}

// wrongChanges are some that may not be.
func wrongChanges() []api.Inc {
	ten := four(10, 0, 0, 0, 8)
	return []api.Inc{
		{}, {Kind: 4, Route: way(ten, 1, 1)}, {Kind: -1, Route: way(ten, 1, 1)}, {Kind: 1 + 1<<32, Route: way(ten, 1, 1)},
		add(four(10, 1, 0, 0, 8), 1, 1), change(four(10, 0, 0, 0, 33), 1, 1), withdraw(four(10, 0, 0, 0, -1)),
		add(ten, -1, 0), add(ten, 65535, 0), change(ten, 65535, 0), change(ten, math.MaxInt, 0),
		{Kind: api.IWithdraw, Route: way(ten, 1, 0)}, {Kind: api.IWithdraw, Route: way(ten, 0, 1)},
	}
}

// packed: bytes, packed.
func packed(t *testing.T, s string) string {
	t.Helper()
	p, err := lz.Pack(s)
	if err != api.OK {
		t.Fatalf("%d bytes: error %d", len(s), err)
	}
	return p
}

// full and part: what is sent of what may be.
func full(t *testing.T, x *table.Table) string {
	t.Helper()
	s, err := session.Full(x)
	if err != api.OK {
		t.Fatalf("%d routes: error %d", x.Len(), err)
	}
	return s
}

func part(t *testing.T, list []api.Inc) string {
	t.Helper()
	s, err := session.Part(list)
	if err != api.OK {
		t.Fatalf("%d changes: error %d", len(list), err)
	}
	return s
}

// P16.1: of a whole table the byte 1, and its dump, packed; the table stays as it is.
func TestFull(t *testing.T) {
	for _, x := range rightTables(t) {
		list := x.All()
		s := full(t, x)
		if s[:1] != "\x01" || s[1:] != packed(t, dump.Print(x)) {
			t.Errorf("%d routes: %x", len(list), s)
		}
		if want, err := dump.Pack(x); s[1:] != want || err != api.OK {
			t.Errorf("%d routes: %x, not %x", len(list), s[1:], want)
		}
		if !slices.Equal(x.All(), list) {
			t.Errorf("%v became %v", list, x.All())
		}
		if y, err := dump.Unpack(s[1:]); err != api.OK || !table.Same(x, y) {
			t.Errorf("%d routes: error %d, %v", len(list), err, y.All())
		}
	}
}

// P16.1: ErrNil of no table, which isn't one of no routes.
func TestFullOfNil(t *testing.T) {
	if s, err := session.Full(nil); s != "" || err != api.ErrNil {
		t.Errorf("%x, error %d", s, err)
	}
	if s, err := session.Full(tableOf(t)); s == "" || err != api.OK {
		t.Errorf("%x, error %d", s, err)
	}
}

// P16.1: of changes the byte 2, and the row's bytes, packed; the row stays as it is, its spare room too.
func TestPart(t *testing.T) {
	for _, list := range rightRows() {
		before := append(slices.Clone(list), add(api.Prefix{}, 7, 7))
		room := slices.Clone(before)
		s := part(t, room[:len(list)])
		bytes, err := incr.Print(list)
		if err != api.OK || s[:1] != "\x02" || s[1:] != packed(t, bytes) {
			t.Errorf("%d changes: %x, error %d", len(list), s, err)
		}
		if !slices.Equal(room, before) {
			t.Errorf("%v became %v", before, room)
		}
	}
}

// P16.1: of no changes there is something to send, too.
func TestPartOfNone(t *testing.T) {
	want := "\x02" + packed(t, "\x00")
	for _, list := range [][]api.Inc{nil, {}, adds(3)[:0]} {
		if s, err := session.Part(list); s != want || err != api.OK {
			t.Errorf("%x, error %d; not %x", s, err, want)
		}
	}
}

// P16.1: the errors of incr.Print, in its order.
func TestPartOfWrongChanges(t *testing.T) {
	for i, wrong := range wrongChanges() {
		for _, list := range [][]api.Inc{row(wrong), row(withdraw(nth(1)), wrong), append(adds(199), wrong), append(adds(200), wrong), append(row(wrong), adds(300)...)} {
			if s, err := session.Part(list); s != "" || err != api.ErrArg {
				t.Errorf("change %d of %d: %x, error %d", i, len(list), s, err)
			}
		}
	}
	for _, n := range []int{201, 202, 256, 300, 1000} {
		if s, err := session.Part(adds(n)); s != "" || err != api.ErrBig {
			t.Errorf("%d changes: %x, error %d", n, s, err)
		}
	}
}
