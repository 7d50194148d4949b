package sack_test

import (
	"math/rand"
	"slices"
	"testing"

	"signpost/sack"
)

// changes are all the ways to change a map.
func changes() []func(*sack.Map, judge) {
	return []func(*sack.Map, judge){
		func(m *sack.Map, j judge) { m.Set(j.base()); j.set(j.base()) },
		func(m *sack.Map, j judge) { m.Set(len(j) - 1); j.set(len(j) - 1) },
		func(m *sack.Map, j judge) { m.Merge(len(j)/2, "\xaa"); j.merge(len(j)/2, "\xaa") },
		func(m *sack.Map, j judge) { m.Merge(len(j), ""); j.merge(len(j), "") },
	}
}

// P12.1: a copy has the same; then they know nothing of each other, whichever is changed.
func TestCopy(t *testing.T) {
	source := rand.New(rand.NewSource(1212))
	for _, n := range sizes() {
		for _, change := range changes() {
			m, j := drawn(t, source, n)
			c, k := m.Copy(), slices.Clone(j)
			hold(t, c, k)
			change(m, j)
			hold(t, m, j)
			hold(t, c, k)

			m, j = drawn(t, source, n)
			c, k = m.Copy(), slices.Clone(j)
			change(c, k)
			hold(t, m, j)
			hold(t, c, k)
		}
	}
}

// P12.1: copies of copies, and several of one map, are each their own.
func TestCopiesOfCopies(t *testing.T) {
	m, none := empty(t, 256)
	one := m.Copy()
	two, three := one.Copy(), m.Copy()
	for i, c := range []*sack.Map{m, one, two, three} {
		if !c.Set(60 + i) {
			t.Errorf("%d is there", 60+i)
		}
	}
	for i, c := range []*sack.Map{m, one, two, three} {
		j := slices.Clone(none)
		j.set(60 + i)
		hold(t, c, j)
	}
}

// P12.1 and P12.2: each call of a nil *Map, whatever it is asked for.
func TestNil(t *testing.T) {
	var m *sack.Map
	if m.Len() != 0 || m.Count() != 0 || m.Base() != 0 || m.Full() || m.Copy() != nil {
		t.Errorf("len %d, count %d, base %d, full %t, copy %v", m.Len(), m.Count(), m.Base(), m.Full(), m.Copy())
	}
	for _, i := range edges() {
		if m.Set(i) || m.Has(i) || m.Behind(i) != "" {
			t.Errorf("%d: has %t, behind %x", i, m.Has(i), m.Behind(i))
		}
		for _, k := range edges() {
			if list := m.Missing(i, k); len(list) != 0 {
				t.Errorf("missing %d to %d: %v", i, k, list)
			}
		}
		for _, bits := range []string{"", "\x00", "\xff", all(100)} {
			if got := m.Merge(i, bits); got != 0 {
				t.Errorf("merge %d, %x: %d", i, bits, got)
			}
		}
	}
}
