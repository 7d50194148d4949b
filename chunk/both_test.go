package chunk_test

import (
	"math/rand"
	"testing"

	"signpost/api"
	"signpost/chunk"
)

// P10.2: of every length from nothing to some chunks.
func TestWhatIsCutIsJoined(t *testing.T) {
	for _, mtu := range []int{64, 65, 100} {
		for n := range 500 {
			if _, err := hold(t, text(n), mtu); err != api.OK {
				t.Fatalf("%d bytes, mtu %d: error %d", n, mtu, err)
			}
		}
	}
}

// P10.2: of every mtu that may be.
func TestWhatIsCutIsJoinedByAnyMTU(t *testing.T) {
	s := text(5000)
	for mtu := 64; mtu <= 65535; mtu++ {
		list, err := chunk.Cut(s, mtu)
		if got := chunk.Join(list); got != s || err != api.OK {
			t.Fatalf("mtu %d: %d bytes, error %d", mtu, len(got), err)
		}
	}
}

// P10.2: of texts and mtus of any size, near all that there is room for too.
func TestWhatIsCutIsJoinedOfAnySize(t *testing.T) {
	source := rand.New(rand.NewSource(102))
	count := map[api.Errno]int{}
	for i := range 1500 {
		mtu := 64 + source.Intn(1100)
		most := 256 * sizeJudged(mtu)
		n := source.Intn(most + 1)
		if i%3 == 0 {
			n = most - 2 + source.Intn(5)
		}
		_, err := hold(t, text(n), mtu)
		count[err]++
	}
	if count[api.OK] < 1000 || count[api.ErrBig] < 100 {
		t.Error(count)
	}
}

// P10.1 and P10.2, of any bytes and numbers.
func FuzzCut(f *testing.F) {
	f.Add("", 64)
	f.Add(text(100), 64)
	f.Add(text(1001), 1019)
	f.Add(text(11521), 64)
	f.Add("a", 63)
	f.Add(text(70_000), 65536)
	f.Fuzz(func(t *testing.T, s string, mtu int) {
		hold(t, s, mtu)
		chunk.Count(mtu, len(s))
	})
}
