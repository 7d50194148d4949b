package digest_test

import (
	"math"
	"math/rand"
	"strings"
	"testing"

	"signpost/api"
	"signpost/digest"
)

// P9.1: marks that were reckoned from the chapter's words, without this program.
func TestMarks(t *testing.T) {
	ten := four(10, 0, 0, 0, 8)
	for _, c := range []struct {
		r    api.Route
		want uint64
	}{
		{way(api.Prefix{}, 0, 0), 0x297de9df42ffcf3b},
		{way(api.Prefix{Six: true}, 0, 0), 0xdb7bf6d9e94cc00a},
		{way(ten, 1, 0), 0xc1d83ad6dc631089},
		{way(ten, 0, 1), 0xb6924d4fc1d1a111},
		{way(four(10, 1, 0, 0, 16), 65534, math.MaxUint32), 0xbd0476206d9ca140},
		{way(four(1, 2, 3, 4, 32), 300, 70_000), 0xa57298b6713bcdcb},
		{way(six("\x20\x01\x0d\xb8", 32), 0x0102, 0x01020304), 0x5662bc4ad7e1d37f},
		{way(six(strings.Repeat("\xff", 16), 128), 65534, math.MaxUint32), 0xdd67e1deaaa61006},
	} {
		if got := digest.Mark(c.r); got != c.want {
			t.Errorf("%v: %x, not %x", c.r, got, c.want)
		}
		if got := markJudged(c.r); got != c.want {
			t.Errorf("%v: the judge says %x, not %x", c.r, got, c.want)
		}
	}
}

// P9.1: a route that may not be has a mark, too: a prefix that may not be has no bytes, a Metric below 0 is taken modulo 2^64.
func TestMarksOfRoutesThatMayNotBe(t *testing.T) {
	for _, c := range []struct {
		r    api.Route
		want uint64
	}{
		{way(four(10, 0, 0, 0, 33), 0, 0), 0x676dac289584bcc9},
		{way(six("\x20\x01", 15), 0, 0), 0x676dac289584bcc9},
		{way(four(10, 0, 0, 0, -1), -1, 5), 0xe0e3735a6788d6bb},
		{way(four(10, 0, 0, 0, 8), -1, 0), 0xc63649ef6e20f13e},
		{way(four(10, 0, 0, 0, 8), 65535, 0), 0xe217b72d53d3a240},
	} {
		if got := digest.Mark(c.r); got != c.want {
			t.Errorf("%v: %x, not %x", c.r, got, c.want)
		}
	}
	for _, r := range wrongRoutes() {
		digest.Mark(r)
	}
}

// P9.1: marks at the ends of what may be; no two are the same.
func TestMarksAtEnds(t *testing.T) {
	seen := map[uint64]api.Route{}
	for _, r := range edges() {
		got := digest.Mark(r)
		if want := markJudged(r); got != want {
			t.Errorf("%v: %x, not %x", r, got, want)
		}
		if other, known := seen[got]; known {
			t.Errorf("%v and %v: %x", r, other, got)
		}
		seen[got] = r
	}
}

// P9.1: marks of any routes that may be.
func TestMarksOfMany(t *testing.T) {
	source := rand.New(rand.NewSource(91))
	for range 2000 {
		r := guess(source)
		if got, want := digest.Mark(r), markJudged(r); got != want {
			t.Fatalf("%v: %x, not %x", r, got, want)
		}
	}
}

// P9.1: there are 17 ranges.
func TestBuckets(t *testing.T) {
	if n := digest.Buckets(); n != 17 {
		t.Error(n)
	}
}

// P9.1: of four bytes the first four bits tell the range, and nothing else does; of sixteen nothing does.
func TestBucket(t *testing.T) {
	for first := range 256 {
		for _, rest := range []byte{0, 1, 255} {
			for _, n := range []int{0, 3, 4, 5, 8, 31, 32, 33, 64, 128, -1, math.MinInt, math.MaxInt} {
				p := four(byte(first), rest, rest, rest, n)
				if got := digest.Bucket(p); got != first/16 || got != bucketJudged(p) {
					t.Errorf("%v: %d", p, got)
				}
				p.Six = true
				if got := digest.Bucket(p); got != 16 {
					t.Errorf("%v: %d", p, got)
				}
			}
		}
	}
}
