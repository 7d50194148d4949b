package chunk_test

import (
	"math"
	"math/rand"
	"slices"
	"testing"

	"signpost/api"
	"signpost/chunk"
)

// wrongMTUs are some that may not be; some of them are right ones in their lowest bits.
func wrongMTUs() []int {
	return []int{math.MinInt, math.MinInt + 64, -1 << 32, -65535, -64, -1, 0, 1, 18, 19, 20, 62, 63, 65536, 65537, 65600, 1<<16 + 1019, 1<<32 + 64, 1<<32 + 1019, math.MaxInt - 1, math.MaxInt}
}

// rightMTUs are some that may be, at the ends and where a chunk becomes no greater.
func rightMTUs() []int {
	return []int{64, 65, 83, 100, 127, 128, 256, 500, 1000, 1017, 1018, 1019, 1020, 1021, 1500, 32767, 32768, 65534, 65535}
}

// text: so many bytes, any ones, the same each time.
func text(n int) string {
	list := make([]byte, n)
	rand.New(rand.NewSource(int64(n))).Read(list)
	return string(list)
}

// sizeJudged: a chunk's size by the chapter's words; 0, if there is none.
func sizeJudged(mtu int) int {
	switch {
	case mtu < 64 || mtu > 65535:
		return 0
	case mtu <= 1019:
		return mtu - 19
	default:
		return 1000
	}
}

// judged: the chunks of a text, laid into them byte by byte.
func judged(s string, mtu int) ([]string, api.Errno) {
	size := sizeJudged(mtu)
	if size == 0 {
		return nil, api.ErrArg
	}
	chunks := [][]byte{nil}
	for i := range len(s) {
		if len(chunks[len(chunks)-1]) == size {
			chunks = append(chunks, nil)
		}
		chunks[len(chunks)-1] = append(chunks[len(chunks)-1], s[i])
	}
	if len(chunks) > 256 {
		return nil, api.ErrBig
	}
	var list []string
	for _, c := range chunks {
		list = append(list, string(c))
	}
	return list, api.OK
}

// hold holds Cut against the judge, Count against Cut, and that what was cut is, joined, as it was.
func hold(t *testing.T, s string, mtu int) ([]string, api.Errno) {
	t.Helper()
	want, wrong := judged(s, mtu)
	list, err := chunk.Cut(s, mtu)
	if err != wrong || !slices.Equal(list, want) {
		t.Fatalf("%d bytes, mtu %d: %q, error %d; not %q, error %d", len(s), mtu, list, err, want, wrong)
	}
	n := len(list)
	if err != api.OK {
		n = -1
	}
	if got := chunk.Count(len(s), mtu); got != n {
		t.Fatalf("%d bytes, mtu %d: count %d, not %d", len(s), mtu, got, n)
	}
	if got := chunk.Join(list); err == api.OK && got != s {
		t.Fatalf("%d bytes, mtu %d: joined %d other ones", len(s), mtu, len(got))
	}
	return list, err
}

// lengths: of each chunk.
func lengths(list []string) []int {
	var all []int
	for _, c := range list {
		all = append(all, len(c))
	}
	return all
}
