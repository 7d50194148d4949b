package chunk_test

import (
	"slices"
	"strings"
	"testing"

	"signpost/api"
	"signpost/chunk"
)

// P10.1: the chapter's example.
func TestExample(t *testing.T) {
	list, err := hold(t, text(100), 64)
	if !slices.Equal(lengths(list), []int{45, 45, 10}) || err != api.OK {
		t.Errorf("%v, error %d", lengths(list), err)
	}
}

// P10.1: chunks by their bytes, which stay in their order.
func TestCut(t *testing.T) {
	a, b := strings.Repeat("a", 45), "b\x00\xff"+strings.Repeat("b", 42)
	for _, c := range []struct {
		s    string
		want []string
	}{
		{"", []string{""}},
		{"\x00", []string{"\x00"}},
		{"\xff", []string{"\xff"}},
		{a[1:], []string{a[1:]}},
		{a, []string{a}},
		{a + "b", []string{a, "b"}},
		{a + b, []string{a, b}},
		{b + a + b + "\x80", []string{b, a, b, "\x80"}},
	} {
		if list, err := chunk.Cut(c.s, 64); !slices.Equal(list, c.want) || err != api.OK {
			t.Errorf("%q: %q, error %d; not %q", c.s, list, err, c.want)
		}
		hold(t, c.s, 64)
	}
}

// P10.1: bytes that are a rune together are cut asunder like others.
func TestCutWithinARune(t *testing.T) {
	list, err := hold(t, strings.Repeat("ä", 23), 64)
	if len(list) != 2 || list[1] != "\xa4" || err != api.OK {
		t.Errorf("%q, error %d", list, err)
	}
}

// P10.1: of an empty text one empty chunk, whatever the mtu is.
func TestCutOfAnEmptyText(t *testing.T) {
	for _, mtu := range rightMTUs() {
		if list, err := chunk.Cut("", mtu); len(list) != 1 || list[0] != "" || err != api.OK {
			t.Errorf("mtu %d: %q, error %d", mtu, list, err)
		}
		hold(t, "", mtu)
	}
}

// P10.1: all chunks but the last one have the size that Size tells, and the last one what is left: from the first bytes to the last ones that there is room for.
func TestCutWhereChunksEnd(t *testing.T) {
	for _, mtu := range rightMTUs() {
		size, _ := chunk.Size(mtu)
		for _, full := range []int{0, 1, 2, 3, 7, 8, 127, 128, 253, 254, 255} {
			for _, last := range []int{1, 2, size / 2, size - 1, size} {
				list, err := hold(t, text(full*size+last), mtu)
				if want := append(slices.Repeat([]int{size}, full), last); !slices.Equal(lengths(list), want) || err != api.OK {
					t.Errorf("mtu %d, %d full ones and %d: %v, error %d", mtu, full, last, lengths(list), err)
				}
			}
		}
	}
}

// P10.1: 256 chunks, the last one full, may be; a byte more is too much.
func TestCutOfTooMuch(t *testing.T) {
	for _, c := range []struct{ mtu, most int }{{64, 11520}, {65, 11776}, {1018, 255744}, {1019, 256000}, {1020, 256000}, {65535, 256000}} {
		list, err := hold(t, text(c.most), c.mtu)
		if len(list) != 256 || len(list[255]) != c.most/256 || err != api.OK {
			t.Errorf("%d bytes, mtu %d: %v, error %d", c.most, c.mtu, lengths(list), err)
		}
		for _, more := range []int{1, 2, c.most / 256, c.most, 3 * c.most} {
			if list, err := chunk.Cut(text(c.most+more), c.mtu); len(list) != 0 || err != api.ErrBig {
				t.Errorf("%d bytes, mtu %d: %v, error %d", c.most+more, c.mtu, lengths(list), err)
			}
			hold(t, text(c.most+more), c.mtu)
		}
	}
}

// P10.1: an mtu that may not be is told first, whatever the text is, and there are no chunks.
func TestCutOfWrongMTUs(t *testing.T) {
	for _, mtu := range wrongMTUs() {
		for _, n := range []int{0, 1, 44, 45, 46, 1000, 11521, 256000, 256001, 1_000_000} {
			if list, err := chunk.Cut(text(n), mtu); len(list) != 0 || err != api.ErrArg {
				t.Errorf("%d bytes, mtu %d: %v, error %d", n, mtu, lengths(list), err)
			}
			hold(t, text(n), mtu)
		}
	}
}

// P10.1: Cut answers a list of its own each time.
func TestCutAnswersNewLists(t *testing.T) {
	s := text(100)
	list, _ := chunk.Cut(s, 64)
	clear(list)
	if again, err := chunk.Cut(s, 64); !slices.Equal(again, []string{s[:45], s[45:90], s[90:]}) || err != api.OK {
		t.Errorf("%q, error %d", again, err)
	}
}
