package sack_test

import (
	"math/rand"
	"testing"

	"signpost/api"
	"signpost/sack"
)

// P12.1 and P12.2: the chapter's example.
func TestExample(t *testing.T) {
	m, j := with(t, 5, 0, 1, 3)
	if m.Base() != 2 || m.Behind(2) != "\x01" || m.Count() != 3 || m.Len() != 5 || m.Full() {
		t.Errorf("base %d, behind %x, count %d, len %d, full %t", m.Base(), m.Behind(2), m.Count(), m.Len(), m.Full())
	}
	hold(t, m, j)
}

// P12.1: of each size that may be, none is there.
func TestNew(t *testing.T) {
	for n := 1; n <= 256; n++ {
		m, j := empty(t, n)
		hold(t, m, j)
		if m.Len() != n || m.Count() != 0 || m.Base() != 0 || m.Full() || m.Has(0) {
			t.Errorf("of %d: len %d, count %d, base %d, full %t", n, m.Len(), m.Count(), m.Base(), m.Full())
		}
	}
}

// P12.1: ErrArg, and no map, of any other size.
func TestNewOfWrongSizes(t *testing.T) {
	for _, n := range append(far(), 0) {
		if m, err := sack.New(n); m != nil || err != api.ErrArg {
			t.Errorf("of %d: %v, error %d", n, m, err)
		}
	}
	for n := 257; n < 2000; n++ {
		if m, err := sack.New(n); m != nil || err != api.ErrArg {
			t.Errorf("of %d: %v, error %d", n, m, err)
		}
	}
}

// P12.1: maps of the same size know nothing of each other.
func TestNewMapsAreTheirOwn(t *testing.T) {
	a, j := with(t, 65, 0, 64)
	b, none := empty(t, 65)
	hold(t, b, none)
	b.Set(1)
	hold(t, a, j)
}

// P12.1: each chunk alone, in maps of many sizes: it and no other one is there, and it is set once.
func TestSetEachChunkAlone(t *testing.T) {
	for _, n := range sizes() {
		for i := range n {
			m, j := with(t, n, i)
			hold(t, m, j)
			if m.Set(i) {
				t.Errorf("of %d: %d is set again", n, i)
			}
			hold(t, m, j)
		}
	}
}

// P12.1: what is no chunk isn't set, isn't there, and changes nothing.
func TestSetOfNoChunk(t *testing.T) {
	for _, n := range sizes() {
		m, j := empty(t, n)
		for _, chunks := range [][]int{nil, {0}, but(n, 0)} {
			for _, i := range chunks {
				m.Set(i)
				j.set(i)
			}
			for _, i := range append(far(), n, n+1, n+7, n+8, n+63, n+64, n+256) {
				if m.Set(i) || m.Has(i) {
					t.Errorf("%s: %d is set", told(j), i)
				}
			}
			hold(t, m, j)
		}
	}
}

// P12.1: rising, the base goes along, and behind the last one all are there.
func TestSetRising(t *testing.T) {
	for _, n := range sizes() {
		m, j := empty(t, n)
		for i := range n {
			if m.Full() || m.Base() != i || m.Count() != i || m.Has(i) || !m.Set(i) || !m.Has(i) {
				t.Fatalf("of %d: at %d: base %d, count %d, full %t", n, i, m.Base(), m.Count(), m.Full())
			}
			j.set(i)
			hold(t, m, j)
		}
		if !m.Full() || m.Base() != n || m.Count() != n {
			t.Errorf("of %d: base %d, count %d, full %t", n, m.Base(), m.Count(), m.Full())
		}
	}
}

// P12.1: falling, the base stays 0 up to the last one.
func TestSetFalling(t *testing.T) {
	for _, n := range sizes() {
		m, j := empty(t, n)
		for i := n - 1; i >= 0; i-- {
			if m.Full() || m.Base() != 0 || !m.Set(i) {
				t.Fatalf("of %d: at %d: base %d, full %t", n, i, m.Base(), m.Full())
			}
			j.set(i)
			hold(t, m, j)
		}
		if !m.Full() || m.Base() != n {
			t.Errorf("of %d: base %d, full %t", n, m.Base(), m.Full())
		}
	}
}

// P12.1: where one alone isn't there, it is the base, up to the last one.
func TestBaseOfAllButOne(t *testing.T) {
	for _, n := range sizes() {
		for i := range n {
			m, j := with(t, n, but(n, i)...)
			if m.Base() != i || m.Count() != n-1 || m.Full() {
				t.Errorf("of %d without %d: base %d, count %d, full %t", n, i, m.Base(), m.Count(), m.Full())
			}
			hold(t, m, j)
			if !m.Set(i) || m.Base() != n || m.Count() != n || !m.Full() {
				t.Errorf("of %d with %d: base %d, count %d, full %t", n, i, m.Base(), m.Count(), m.Full())
			}
		}
	}
}

// P12.1: any numbers, chunks or none, in any order, told like the judge tells them.
func TestSetInAnyOrder(t *testing.T) {
	source := rand.New(rand.NewSource(12))
	for range 300 {
		n := 1 + source.Intn(256)
		m, j := empty(t, n)
		for range source.Intn(3 * n) {
			i := source.Intn(n+20) - 10
			if got, want := m.Set(i), j.set(i); got != want {
				t.Fatalf("%s: set %d: %t", told(j), i, got)
			}
		}
		hold(t, m, j)
	}
}
