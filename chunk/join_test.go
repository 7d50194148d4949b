package chunk_test

import (
	"slices"
	"strings"
	"testing"

	"signpost/chunk"
)

// P10.1: one behind the other; of no list, nothing.
func TestJoin(t *testing.T) {
	for _, c := range []struct {
		list []string
		want string
	}{
		{nil, ""},
		{[]string{}, ""},
		{[]string{""}, ""},
		{[]string{"", "", ""}, ""},
		{[]string{"a"}, "a"},
		{[]string{"ab", "c"}, "abc"},
		{[]string{"c", "ab"}, "cab"},
		{[]string{"", "ab", "", "", "c", ""}, "abc"},
		{[]string{"\x00", "\xff", "\x80\x00"}, "\x00\xff\x80\x00"},
		{[]string{"\xc3", "\xa4", "a", "a"}, "äaa"},
	} {
		if got := chunk.Join(c.list); got != c.want {
			t.Errorf("%q: %q, not %q", c.list, got, c.want)
		}
	}
}

// P10.1: lists and texts that Cut wouldn't make are joined too.
func TestJoinOfOtherLists(t *testing.T) {
	if got := chunk.Join(slices.Repeat([]string{"ab"}, 1000)); got != strings.Repeat("ab", 1000) {
		t.Errorf("%q", got)
	}
	s := text(300_000)
	if chunk.Join([]string{s}) != s || chunk.Join([]string{"x", s, s}) != "x"+s+s {
		t.Error("texts that are too long for a chunk")
	}
}

// P10.1, and rule 5: the list stays as it is, its spare room too.
func TestJoinLeavesTheList(t *testing.T) {
	list := []string{"a", "", "b", "spare", "room"}
	if got := chunk.Join(list[:3]); got != "ab" {
		t.Errorf("%q", got)
	}
	if !slices.Equal(list, []string{"a", "", "b", "spare", "room"}) {
		t.Errorf("%q", list)
	}
}
