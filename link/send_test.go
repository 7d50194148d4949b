package link_test

import (
	"slices"
	"testing"

	"signpost/api"
	"signpost/link"
)

// P15.1: a new link: none on the way; each is one of its own.
func TestNew(t *testing.T) {
	l, other := link.New(), link.New()
	if l == nil || other == nil || l == other {
		t.Fatal("no two links")
	}
	expectEmpty(t, l)
	l.Send("a", of(api.Late))
	l.Send("b", of(api.Twice))
	expectEmpty(t, other)
	other.Send("c", of(api.Deliver))
	if got := l.All(); !slices.Equal(got, []string{"b", "b", "a"}) {
		t.Errorf("%q", got)
	}
	if got := other.All(); !slices.Equal(got, []string{"c"}) {
		t.Errorf("%q", got)
	}
}

// P15.1: the chapter's examples.
func TestExamples(t *testing.T) {
	list := []string{"a", "b", "c"}
	expectRow(t, list, []int{api.Late, api.Deliver, api.Deliver}, "b", "a", "c")
	expectRow(t, list, []int{api.Twice}, "a", "a")
}

// P15.1: each kind of fate alone, of a text and of an empty one.
func TestEachKindAlone(t *testing.T) {
	for _, c := range []struct {
		f    api.Fate
		want []string
	}{
		{api.Fate{Kind: api.Deliver}, []string{"abc"}}, {api.Fate{Kind: api.Deliver, N: 1, Bits: 7}, []string{"abc"}},
		{api.Fate{Kind: api.Drop}, nil}, {api.Fate{Kind: api.Drop, N: 1, Bits: 7}, nil},
		{api.Fate{Kind: api.Twice}, []string{"abc", "abc"}}, {api.Fate{Kind: api.Twice, N: 1, Bits: 7}, []string{"abc", "abc"}},
		{api.Fate{Kind: api.Late}, []string{"abc"}}, {api.Fate{Kind: api.Late, N: 1, Bits: 7}, []string{"abc"}},
		{api.Fate{Kind: api.Flip, N: 8, Bits: 3}, []string{"aac"}}, {api.Fate{Kind: api.Flip}, []string{"abc"}},
		{api.Fate{Kind: api.Cut, N: 2}, []string{"ab"}}, {api.Fate{Kind: api.Cut}, []string{""}}, {api.Fate{Kind: api.Cut, N: 3}, []string{""}},
	} {
		l := link.New()
		l.Send("abc", c.f)
		if n, got := l.Len(), l.All(); n != len(c.want) || !slices.Equal(got, c.want) {
			t.Errorf("%v: %d: %q, not %q", c.f, n, got, c.want)
		}
		l.Send("", c.f)
		if n, got := l.Len(), l.All(); n != len(c.want) || !slices.Equal(got, make([]string, len(c.want))) {
			t.Errorf("%v: empty: %d: %q", c.f, n, got)
		}
	}
}

// P15.1: kinds that are none of the six: the bytes stay, and stand where a Deliver stands.
func TestOtherKinds(t *testing.T) {
	for _, kind := range wrongKinds() {
		l := link.New()
		l.Send("a", of(api.Late))
		l.Send("abc", api.Fate{Kind: kind, N: 1, Bits: 7})
		l.Send("", api.Fate{Kind: kind, N: 1, Bits: 7})
		if got := l.All(); !slices.Equal(got, []string{"abc", "a", ""}) {
			t.Errorf("kind %d: %q", kind, got)
		}
	}
}

// P15.1: those that aren't late come as they were sent; one that is dropped doesn't.
func TestOrder(t *testing.T) {
	list := []string{"a", "b", "c", "d"}
	expectRow(t, list, nil)
	expectRow(t, list, []int{0, 0, 0, 0}, "a", "b", "c", "d")
	expectRow(t, list, []int{0, 1, 0, 0}, "a", "c", "d")
	expectRow(t, list, []int{1, 1, 0, 1}, "c")
	expectRow(t, list, []int{1, 1, 1, 1})
	expectRow(t, list, []int{0, 2, 0, 2}, "a", "b", "b", "c", "d", "d")
	expectRow(t, list, []int{2, 2, 2, 2}, "a", "a", "b", "b", "c", "c", "d", "d")
	expectRow(t, list, []int{0, 5, 4, 0}, "a", "", "c", "d")
}

// P15.1: one that is late stands behind the next one that comes: never behind one that was sent ahead of it, and no further.
func TestLate(t *testing.T) {
	list := []string{"a", "b", "c", "d"}
	expectRow(t, list, []int{0, 3, 0, 0}, "a", "c", "b", "d")
	expectRow(t, list, []int{3, 0, 3, 0}, "b", "a", "d", "c")
	expectRow(t, list, []int{0, 0, 0, 3}, "a", "b", "c", "d")
	expectRow(t, list, []int{3, 2, 0, 0}, "b", "b", "a", "c", "d")
	expectRow(t, list, []int{3, 4, 0, 0}, "b", "a", "c", "d")
	expectRow(t, list, []int{3, 5, 0, 0}, "", "a", "c", "d")
	expectRow(t, list, []int{3, 9, 0, 0}, "b", "a", "c", "d")
	expectRow(t, list, []int{3, 1, 0, 0}, "c", "a", "d")
	expectRow(t, list, []int{3, 1, 1, 0}, "d", "a")
	expectRow(t, list, []int{3, 1, 1, 1}, "a")
	expectRow(t, list, []int{2, 3, 2, 0}, "a", "a", "c", "c", "b", "d")
}

// P15.1: several that are late stand one behind the other, behind the next one that isn't; at the end behind all.
func TestSeveralLate(t *testing.T) {
	list := []string{"a", "b", "c", "d"}
	expectRow(t, list, []int{3, 3, 0, 0}, "c", "a", "b", "d")
	expectRow(t, list, []int{3, 3, 3, 0}, "d", "a", "b", "c")
	expectRow(t, list, []int{3, 3, 3, 2}, "d", "d", "a", "b", "c")
	expectRow(t, list, []int{3, 3, 3, 5}, "", "a", "b", "c")
	expectRow(t, list, []int{3, 3, 3, 1}, "a", "b", "c")
	expectRow(t, list, []int{3, 3, 3, 3}, "a", "b", "c", "d")
	expectRow(t, list, []int{0, 3, 3, 3}, "a", "b", "c", "d")
	expectRow(t, list, []int{3, 1, 3, 0}, "d", "a", "c")
	expectRow(t, list, []int{3, 3, 1, 0}, "d", "a", "b")
	expectRow(t, list, []int{3, 0, 3, 3}, "b", "a", "c", "d")
}

// P15.1: empty texts stand among others as any do.
func TestEmptyTextsAmongOthers(t *testing.T) {
	expectRow(t, []string{"", "b", "", "d"}, []int{3, 0, 2, 3}, "b", "", "", "", "d")
	expectRow(t, []string{"a", "", "", ""}, []int{3, 1, 4, 5}, "", "a", "")
	expectRow(t, []string{"", "", "", ""}, []int{3, 3, 3, 3}, "", "", "", "")
}

// P15.1: what is late, or comes twice, is the bytes that were sent, whatever N and Bits are.
func TestLateAndTwiceAreWhole(t *testing.T) {
	for _, n := range []int{0, 1, 8, 100, 1000} {
		for _, kind := range []int{api.Late, api.Twice, api.Deliver} {
			for _, at := range numbers(8 * n) {
				l := link.New()
				l.Send(text(n), api.Fate{Kind: kind, N: at, Bits: 0xffffffff})
				for _, s := range l.All() {
					if s != text(n) {
						t.Fatalf("kind %d, N %d: %d bytes: %x", kind, at, n, s)
					}
				}
			}
		}
	}
}

// P15.1: each row of up to five fates, of each kind and of one that there is not: two readings of the words tell the same.
func TestAllShortRows(t *testing.T) {
	list := []string{"aa", "b", "", "dd", "e"}
	for n := range 6 {
		many := 1
		for range n {
			many *= 7
		}
		for code := range many {
			row := make([]api.Fate, n)
			for i := range row {
				row[i] = api.Fate{Kind: code % 7, N: 9 * i, Bits: 5}
				code /= 7
			}
			l, j := link.New(), &judge{}
			for i, f := range row {
				send(t, l, j, list[i], f)
			}
			got, want := l.All(), placed(list[:n], row)
			if !slices.Equal(got, want) || !slices.Equal(got, j.all()) {
				t.Fatalf("%v: %q, not %q", row, got, want)
			}
			expectEmpty(t, l)
		}
	}
}

// P15.1: many on the way, and many late.
func TestMany(t *testing.T) {
	const n = 20000
	l := link.New()
	list := texts(n)
	for _, s := range list {
		l.Send(s, of(api.Late))
	}
	l.Send("now", of(api.Twice))
	for _, s := range list {
		l.Send(s, of(api.Deliver))
	}
	want := slices.Concat([]string{"now", "now"}, list, list)
	if l.Len() != len(want) || !slices.Equal(l.All(), want) {
		t.Error("not all, or not in their order")
	}
	expectEmpty(t, l)
}
