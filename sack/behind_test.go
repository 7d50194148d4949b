package sack_test

import (
	"math"
	"math/rand"
	"strings"
	"testing"
)

// P12.2: by hand: the lowest bit first, none but the first k ones, and noughts to a byte's end.
func TestBehind(t *testing.T) {
	m, _ := with(t, 40, 0, 1, 3, 4, 6, 9, 10, 11, 12, 19, 27, 39) // base 2: behind it 11010011 11000000 10000000 10000000 00001000
	for _, c := range []struct {
		k    int
		want string
	}{
		{math.MinInt, ""}, {-1 << 32, ""}, {-256, ""}, {-8, ""}, {-1, ""}, {0, ""},
		{1, "\x01"}, {2, "\x03"}, {3, "\x03"}, {4, "\x0b"}, {6, "\x0b"}, {7, "\x4b"}, {8, "\xcb"},
		{9, "\xcb\x01"}, {10, "\xcb\x03"}, {15, "\xcb\x03"}, {16, "\xcb\x03"}, {17, "\xcb\x03\x01"}, {24, "\xcb\x03\x01"}, {25, "\xcb\x03\x01\x01"},
		{36, "\xcb\x03\x01\x01\x00"}, {37, "\xcb\x03\x01\x01\x10"}, {38, "\xcb\x03\x01\x01\x10"}, {40, "\xcb\x03\x01\x01\x10"}, {41, "\xcb\x03\x01\x01\x10\x00"},
		{255, "\xcb\x03\x01\x01\x10" + strings.Repeat("\x00", 27)}, {256, "\xcb\x03\x01\x01\x10" + strings.Repeat("\x00", 27)},
		{257, "\xcb\x03\x01\x01\x10" + strings.Repeat("\x00", 27)}, {264, "\xcb\x03\x01\x01\x10" + strings.Repeat("\x00", 27)},
		{1<<32 + 1, "\xcb\x03\x01\x01\x10" + strings.Repeat("\x00", 27)}, {math.MaxInt, "\xcb\x03\x01\x01\x10" + strings.Repeat("\x00", 27)},
	} {
		if got := m.Behind(c.k); got != c.want {
			t.Errorf("%d bits: %x, not %x", c.k, got, c.want)
		}
	}
}

// P12.2: the base itself has no bit: with a base of 0 bit 0 is chunk 1's; of 255 behind it the last one is chunk 255's.
func TestBehindOfTheGreatest(t *testing.T) {
	m, _ := with(t, 256, but(256, 0)...)
	for _, c := range []struct {
		k    int
		want string
	}{
		{1, "\x01"}, {7, "\x7f"}, {8, "\xff"}, {9, "\xff\x01"}, {63, strings.Repeat("\xff", 7) + "\x7f"}, {64, strings.Repeat("\xff", 8)}, {65, strings.Repeat("\xff", 8) + "\x01"},
		{254, strings.Repeat("\xff", 31) + "\x3f"}, {255, strings.Repeat("\xff", 31) + "\x7f"}, {256, strings.Repeat("\xff", 31) + "\x7f"}, {300, strings.Repeat("\xff", 31) + "\x7f"},
	} {
		if got := m.Behind(c.k); got != c.want {
			t.Errorf("%d bits: %x, not %x", c.k, got, c.want)
		}
	}
}

// P12.2: where nothing is behind the base, noughts alone, as many as are asked for.
func TestBehindOfNothing(t *testing.T) {
	for _, n := range sizes() {
		for _, chunks := range [][]int{nil, upTo(n), but(n, n-1), upTo(n / 2)} {
			m, _ := with(t, n, chunks...)
			for k := range 257 {
				if got := m.Behind(k); got != strings.Repeat("\x00", (k+7)/8) {
					t.Fatalf("of %d, %d there, %d bits: %x", n, len(chunks), k, got)
				}
			}
		}
	}
}

// P12.2: every base and each chunk behind it, at words' and bytes' borders too.
func TestBehindOfEachChunk(t *testing.T) {
	for _, n := range []int{1, 8, 9, 64, 65, 128, 129} {
		for base := range n {
			for i := base + 1; i < n; i++ {
				m, j := with(t, n, append(upTo(base), i)...)
				at := i - base - 1
				want := []byte(strings.Repeat("\x00", 32))
				want[at/8] = 1 << (at % 8)
				if got := m.Behind(256); got != string(want) {
					t.Fatalf("%s: %x, not %x", told(j), got, want)
				}
				if got := m.Behind(at); got != strings.Repeat("\x00", (at+7)/8) {
					t.Fatalf("%s: %d bits: %x", told(j), at, got)
				}
			}
		}
	}
}

// P12.2: every k, of drawn maps; and nothing changes by it.
func TestBehindOfAnyMap(t *testing.T) {
	source := rand.New(rand.NewSource(122))
	for range 100 {
		m, j := drawn(t, source, 1+source.Intn(256))
		for k := -10; k < 270; k++ {
			if got, want := m.Behind(k), j.behind(k); got != want {
				t.Fatalf("%s: %d bits: %x, not %x", told(j), k, got, want)
			}
		}
		for _, k := range far() {
			if got, want := m.Behind(k), j.behind(k); got != want {
				t.Fatalf("%s: %d bits: %x, not %x", told(j), k, got, want)
			}
		}
		hold(t, m, j)
	}
}
