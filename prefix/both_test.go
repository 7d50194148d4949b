package prefix_test

import (
	"math/rand"
	"slices"
	"testing"

	"signpost/api"
	"signpost/prefix"
	"signpost/varint"
)

// near are prefixes of few bits of both kinds, in order, many of which contain others.
func near(t *testing.T) []api.Prefix {
	t.Helper()
	var list []api.Prefix
	for _, isSix := range []bool{false, true} {
		addr := make([]byte, most(isSix)/8)
		for high := range 4 {
			for low := range 4 {
				addr[0], addr[1] = byte(high)<<6|byte(high), byte(low)<<6
				for n := range 11 {
					p, err := prefix.Make(isSix, string(addr), n)
					if err != api.OK {
						t.Fatal(err)
					}
					list = append(list, p)
				}
			}
		}
	}
	slices.SortFunc(list, prefix.Compare)
	return slices.Compact(list)
}

// P3.3: what is written is read as it was; unlike prefixes have unlike bytes and unlike texts.
func TestWhatIsWrittenIsRead(t *testing.T) {
	list := append(rights(t), near(t)...)
	seen := map[string]api.Prefix{}
	for _, p := range list {
		s := prefix.Bytes(p)
		r := varint.NewReader(s)
		if got, err := prefix.Read(r); got != p || err != api.OK || r.Done() != api.OK {
			t.Fatalf("%v: %x: %v %d", p, s, got, err)
		}
		for _, key := range []string{s, prefix.Text(p)} {
			if other, ok := seen[key]; ok && other != p {
				t.Fatalf("%q: %v %v", key, p, other)
			}
			seen[key] = p
		}
	}
}

// P3.3, the other way: bytes that are read whole are written just so.
func TestWhatIsReadIsWritten(t *testing.T) {
	source := rand.New(rand.NewSource(3))
	found := 0
	for range 200_000 {
		list := make([]byte, source.Intn(5))
		for i := range list {
			list[i] = byte(source.Intn(256)) & byte(source.Intn(256))
		}
		r := varint.NewReader(string(list))
		p, err := prefix.Read(r)
		if err != api.OK {
			continue
		}
		found++
		took := string(list[:len(list)-r.Left()])
		if !prefix.Right(p) || prefix.Bytes(p) != took {
			t.Fatalf("%x: %v", list, p)
		}
	}
	if found < 1000 {
		t.Error(found)
	}
}

// P3.3: in order, a prefix stands ahead of what it contains, but itself, and all of that just behind it.
func TestWhatIsContainedStandsInARow(t *testing.T) {
	list := append(near(t), rights(t)...)
	slices.SortFunc(list, prefix.Compare)
	list = slices.Compact(list)
	for i, a := range list {
		behind := i // the first one that a doesn't contain, from its own place on
		for behind < len(list) && prefix.Contains(a, list[behind]) {
			behind++
		}
		if behind == i {
			t.Fatalf("%v doesn't contain itself", a)
		}
		for j, b := range list {
			if (j < i || j >= behind) && prefix.Contains(a, b) {
				t.Fatalf("%v contains %v, which doesn't stand in the row behind it", a, b)
			}
		}
	}
}
