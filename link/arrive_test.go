package link_test

import (
	"slices"
	"strconv"
	"testing"

	"signpost/api"
	"signpost/link"
)

// expectNext holds that these come, one by one, and how many are left then.
func expectNext(t *testing.T, l *link.Link, left int, want ...string) {
	t.Helper()
	for _, s := range want {
		if got, ok := l.Arrive(); got != s || !ok {
			t.Fatalf("%q, %t; not %q", got, ok, s)
		}
	}
	if l.Len() != left {
		t.Fatalf("%d left, not %d", l.Len(), left)
	}
}

// P15.2: false of none, at the beginning and behind the last one, as often as one asks; an empty one that comes is true.
func TestArriveOfNone(t *testing.T) {
	l := link.New()
	for range 3 {
		expectEmpty(t, l)
	}
	l.Send("a", of(api.Drop))
	expectEmpty(t, l)
	l.Send("", of(api.Deliver))
	l.Send("", of(api.Late))
	expectNext(t, l, 0, "", "")
	expectEmpty(t, l)
	l.Send("b", of(api.Deliver))
	expectNext(t, l, 0, "b")
	expectEmpty(t, l)
}

// P15.2: between two that are sent.
func TestArriveBetween(t *testing.T) {
	l := link.New()
	l.Send("a", of(api.Deliver))
	l.Send("b", of(api.Twice))
	expectNext(t, l, 2, "a")
	l.Send("c", of(api.Deliver))
	expectNext(t, l, 1, "b", "b")
	l.Send("d", of(api.Drop))
	expectNext(t, l, 0, "c")
	l.Send("e", of(api.Deliver))
	expectNext(t, l, 0, "e")
	expectEmpty(t, l)
}

// P15.2: what came doesn't count any more: one that is late stands behind the next one that is sent.
func TestArriveAheadOfLate(t *testing.T) {
	l := link.New()
	l.Send("a", of(api.Deliver))
	l.Send("b", of(api.Late))
	expectNext(t, l, 1, "a")
	l.Send("c", of(api.Deliver))
	expectNext(t, l, 0, "c", "b")
	expectEmpty(t, l)
}

// P15.2: those that are late come when nothing else is left, the first one first; those that still wait stand behind the next one that is sent.
func TestArriveOfLate(t *testing.T) {
	l := link.New()
	for _, s := range []string{"a", "b", "c", "d"} {
		l.Send(s, of(api.Late))
	}
	expectNext(t, l, 3, "a")
	l.Send("e", of(api.Drop))
	expectNext(t, l, 2, "b")
	l.Send("f", of(api.Deliver))
	if l.Len() != 3 {
		t.Errorf("%d on the way", l.Len())
	}
	l.Send("g", of(api.Deliver))
	l.Send("h", of(api.Late))
	expectNext(t, l, 1, "f", "c", "d", "g")
	l.Send("i", of(api.Late))
	expectNext(t, l, 0, "h", "i")
	expectEmpty(t, l)
}

// P15.2: behind a first one that came late, a second one is late still: each kind that comes goes ahead of it.
func TestSendBehindLateThatCame(t *testing.T) {
	for _, c := range []struct {
		kind int
		want []string
	}{
		{0, []string{"c", "b"}}, {1, []string{"b"}}, {2, []string{"c", "c", "b"}}, {3, []string{"b", "c"}}, {4, []string{"c", "b"}}, {5, []string{"", "b"}}, {6, []string{"c", "b"}}, {-1, []string{"c", "b"}},
	} {
		l := link.New()
		l.Send("a", of(api.Late))
		l.Send("b", of(api.Late))
		expectNext(t, l, 1, "a")
		l.Send("c", of(c.kind))
		expectNext(t, l, 0, c.want...)
		expectEmpty(t, l)
	}
}

// P15.2: All: all, one by one; a second time none, and others behind it.
func TestAll(t *testing.T) {
	l := link.New()
	for round := range 4 {
		a, b, c := "a"+strconv.Itoa(round), "b"+strconv.Itoa(round), "c"+strconv.Itoa(round)
		l.Send(a, of(api.Late))
		l.Send(b, of(api.Twice))
		l.Send(c, of(api.Late))
		if l.Len() != 4 {
			t.Errorf("%d on the way", l.Len())
		}
		if round%2 == 1 {
			expectNext(t, l, 3, b)
			if got := l.All(); !slices.Equal(got, []string{b, a, c}) {
				t.Errorf("%q", got)
			}
		} else if got := l.All(); !slices.Equal(got, []string{b, b, a, c}) {
			t.Errorf("%q", got)
		}
		if got := l.All(); len(got) != 0 {
			t.Errorf("again: %q", got)
		}
		expectEmpty(t, l)
	}
}

// P15.2: a list that All answered is new memory: nothing that is sent later, or written into it, is seen on the other side.
func TestAllIsNew(t *testing.T) {
	l := link.New()
	for _, s := range []string{"a", "b", "c"} {
		l.Send(s, of(api.Deliver))
	}
	first := l.All()
	for _, s := range []string{"d", "e", "f", "g"} {
		l.Send(s, of(api.Twice))
	}
	if !slices.Equal(first, []string{"a", "b", "c"}) {
		t.Errorf("%q", first)
	}
	_ = append(first[:0], "x", "y", "z")
	_ = append(first, "x", "y", "z")
	second := l.All()
	if !slices.Equal(second, []string{"d", "d", "e", "e", "f", "f", "g", "g"}) {
		t.Errorf("%q", second)
	}
	_ = append(second[:0], "x", "y", "z")
	if !slices.Equal(first, []string{"x", "y", "z"}) {
		t.Errorf("%q", first)
	}
}

// P15.2: how many there are, those that are late too.
func TestLen(t *testing.T) {
	l := link.New()
	for _, c := range []struct{ kind, want int }{{0, 1}, {1, 1}, {3, 2}, {3, 3}, {1, 3}, {2, 5}, {3, 6}, {4, 7}, {5, 8}, {6, 9}, {2, 11}, {1, 11}} {
		l.Send("a", of(c.kind))
		if l.Len() != c.want || l.Len() != c.want {
			t.Errorf("%d on the way, not %d", l.Len(), c.want)
		}
	}
	for n := 10; n >= 0; n-- {
		l.Arrive()
		if l.Len() != n {
			t.Errorf("%d on the way, not %d", l.Len(), n)
		}
	}
}

// P15.2: calls of a nil *Link do nothing, and answer nothing, empty, false, none, 0.
func TestNil(t *testing.T) {
	var l *link.Link
	for _, kind := range kinds() {
		l.Send("abc", api.Fate{Kind: kind, N: 1, Bits: 1})
		l.Send("", api.Fate{Kind: kind})
		expectEmpty(t, l)
		if got := l.All(); got != nil {
			t.Errorf("%q", got)
		}
	}
}

// Rule 1: a link that New didn't make is one of none.
func TestZeroLink(t *testing.T) {
	l := &link.Link{}
	expectEmpty(t, l)
	l.Send("a", of(api.Late))
	l.Send("b", of(api.Deliver))
	expectNext(t, l, 0, "b", "a")
}
