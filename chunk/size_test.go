package chunk_test

import (
	"testing"

	"signpost/api"
	"signpost/chunk"
)

// P10.1: by hand, at the ends and where a chunk becomes no greater.
func TestSize(t *testing.T) {
	for _, c := range []struct{ mtu, want int }{
		{64, 45}, {65, 46}, {100, 81}, {1000, 981}, {1017, 998}, {1018, 999}, {1019, 1000}, {1020, 1000}, {1021, 1000}, {1500, 1000}, {65534, 1000}, {65535, 1000},
	} {
		if got, err := chunk.Size(c.mtu); got != c.want || err != api.OK {
			t.Errorf("%d: %d, error %d; not %d", c.mtu, got, err, c.want)
		}
	}
}

// P10.1: ErrArg, and no size.
func TestSizeOfWrongMTUs(t *testing.T) {
	for _, mtu := range wrongMTUs() {
		if got, err := chunk.Size(mtu); got != 0 || err != api.ErrArg {
			t.Errorf("%d: %d, error %d", mtu, got, err)
		}
	}
}

// P10.1: each mtu that may be, and many around them.
func TestSizeOfAllMTUs(t *testing.T) {
	for mtu := -70_000; mtu <= 140_000; mtu++ {
		want, wrong := sizeJudged(mtu), api.OK
		if want == 0 {
			wrong = api.ErrArg
		}
		if got, err := chunk.Size(mtu); got != want || err != wrong {
			t.Fatalf("%d: %d, error %d; not %d, error %d", mtu, got, err, want, wrong)
		}
	}
}
