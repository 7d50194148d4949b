package chunk_test

import (
	"math"
	"testing"

	"signpost/chunk"
)

// P10.1: by hand.
func TestCount(t *testing.T) {
	for _, c := range []struct{ n, mtu, want int }{
		{0, 64, 1}, {1, 64, 1}, {44, 64, 1}, {45, 64, 1}, {46, 64, 2}, {90, 64, 2}, {91, 64, 3}, {100, 64, 3}, {11475, 64, 255}, {11476, 64, 256}, {11520, 64, 256}, {11521, 64, -1},
		{998, 1018, 1}, {999, 1018, 1}, {1000, 1018, 2}, {255744, 1018, 256}, {255745, 1018, -1},
		{999, 1019, 1}, {1000, 1019, 1}, {1001, 1019, 2}, {256000, 1019, 256}, {256001, 1019, -1},
		{1000, 1020, 1}, {1001, 1020, 2}, {256000, 1020, 256}, {256001, 1020, -1},
		{0, 65535, 1}, {1000, 65535, 1}, {1001, 65535, 2}, {255000, 65535, 255}, {255001, 65535, 256}, {256000, 65535, 256}, {256001, 65535, -1},
	} {
		if got := chunk.Count(c.n, c.mtu); got != c.want {
			t.Errorf("%d bytes, mtu %d: %d, not %d", c.n, c.mtu, got, c.want)
		}
	}
}

// P10.1: -1 of an n below 0, and of one that is too great, up to the ends of what a number can be.
func TestCountOfFarNumbers(t *testing.T) {
	far := []int{math.MinInt, math.MinInt + 1, -1 << 32, -1000, -46, -45, -44, -2, -1, 256001, 1 << 32, 1<<32 + 1, 1<<40 + 45, math.MaxInt - 1000, math.MaxInt - 999, math.MaxInt - 45, math.MaxInt - 44, math.MaxInt - 1, math.MaxInt}
	for _, n := range far {
		for _, mtu := range append(rightMTUs(), wrongMTUs()...) {
			if got := chunk.Count(n, mtu); got != -1 {
				t.Errorf("%d bytes, mtu %d: %d", n, mtu, got)
			}
		}
	}
}

// P10.1: -1 of an mtu that may not be, whatever n is.
func TestCountOfWrongMTUs(t *testing.T) {
	for _, mtu := range wrongMTUs() {
		for _, n := range []int{-1, 0, 1, 45, 46, 1000, 11520, 11521, 256000} {
			if got := chunk.Count(n, mtu); got != -1 {
				t.Errorf("%d bytes, mtu %d: %d", n, mtu, got)
			}
		}
	}
}

// P10.1: of each number of bytes, counted up chunk by chunk.
func TestCountOfAllNumbers(t *testing.T) {
	for _, mtu := range rightMTUs() {
		size := sizeJudged(mtu)
		want, room := 1, size
		for n := range 256_100 {
			if n > room {
				want++
				room += size
			}
			if want > 256 {
				want = -1
				room = math.MaxInt
			}
			if got := chunk.Count(n, mtu); got != want {
				t.Fatalf("%d bytes, mtu %d: %d, not %d", n, mtu, got, want)
			}
		}
	}
}
