package link_test

import (
	"math"
	"math/rand"
	"slices"
	"strings"
	"testing"

	"signpost/api"
	"signpost/link"
)

// expectHurt holds what a fate makes of bytes, and that Send makes the same of them.
func expectHurt(t *testing.T, s string, f api.Fate, want string) {
	t.Helper()
	if got := link.Hurt(s, f); got != want {
		t.Fatalf("%q, %v: %q, not %q", s, f, got, want)
	}
	if f.Kind == api.Drop || f.Kind == api.Twice || f.Kind == api.Late {
		return
	}
	l := link.New()
	l.Send(s, f)
	if got := l.All(); !slices.Equal(got, []string{want}) {
		t.Fatalf("%q, %v: sent: %q, not %q", s, f, got, want)
	}
}

// P15.2: Flip, by hand: from the bit N modulo how many bits there are.
func TestFlip(t *testing.T) {
	for _, c := range []struct {
		s    string
		n    int
		bits uint32
		want string
	}{
		{"ab", 8, 3, "aa"}, {"ab", 24, 3, "aa"}, {"ab", 8 + 16*1000, 3, "aa"}, {"ab", -8, 3, "aa"}, {"ab", 0, 3, "bb"}, {"ab", 16, 3, "bb"}, {"ab", 0, 0x303, "ba"},
		{"ab", 8, 0, "ab"}, {"ab", 0, 0, "ab"}, {"ab", -1, 0, "ab"},
		{"\x00", 7, 1, "\x80"}, {"\x00", 8, 1, "\x01"}, {"\x00", 9, 1, "\x02"}, {"\x00", 15, 1, "\x80"}, {"\x00", -1, 1, "\x80"}, {"\x00", -8, 1, "\x01"}, {"\x00", math.MinInt, 1, "\x01"}, {"\x00", math.MaxInt, 1, "\x80"},
		{"\x00\x00\x00", 23, 1, "\x00\x00\x80"}, {"\x00\x00\x00", 24, 1, "\x01\x00\x00"},
		// 2^64 is 16 modulo 24, 2^63 is 8.
		{"\x00\x00\x00", -1, 1, "\x00\x80\x00"}, {"\x00\x00\x00", -16, 1, "\x01\x00\x00"}, {"\x00\x00\x00", -17, 1, "\x00\x00\x80"}, {"\x00\x00\x00", math.MinInt, 1, "\x00\x01\x00"}, {"\x00\x00\x00", math.MaxInt, 1, "\x80\x00\x00"},
		{"\x00\x00\x00\x00\x00\x00", 0, 0xffffffff, "\xff\xff\xff\xff\x00\x00"}, {"\x00\x00\x00\x00\x00\x00", 16, 0xffffffff, "\x00\x00\xff\xff\xff\xff"}, {"\x00\x00\x00\x00\x00\x00", 4, 0xffffffff, "\xf0\xff\xff\xff\x0f\x00"},
		// Near the end: those that aren't in the text aren't turned, nor any at its beginning.
		{"\x00\x00\x00\x00\x00\x00", 17, 0xffffffff, "\x00\x00\xfe\xff\xff\xff"}, {"\x00\x00\x00\x00\x00\x00", 47, 0xffffffff, "\x00\x00\x00\x00\x00\x80"}, {"\x00\x00\x00\x00\x00\x00", 40, 0x80000101, "\x00\x00\x00\x00\x00\x01"}, {"\x00", 0, 0xffffffff, "\xff"}, {"\x00", 5, 0xffffff05, "\xa0"},
	} {
		expectHurt(t, c.s, api.Fate{Kind: api.Flip, N: c.n, Bits: c.bits}, c.want)
	}
}

// P15.2: Cut, by hand: the first N modulo how many bytes there are; never all.
func TestCut(t *testing.T) {
	for _, c := range []struct {
		s    string
		n    int
		want string
	}{
		{"abc", 0, ""}, {"abc", 1, "a"}, {"abc", 2, "ab"}, {"abc", 3, ""}, {"abc", 4, "a"}, {"abc", 5, "ab"}, {"abc", 6, ""}, {"abc", 3001, "a"},
		// 2^64 is 1 modulo 3, 2^63 is 2.
		{"abc", -1, ""}, {"abc", -2, "ab"}, {"abc", -3, "a"}, {"abc", -4, ""}, {"abc", math.MinInt, "ab"}, {"abc", math.MinInt + 1, ""}, {"abc", math.MaxInt, "a"}, {"abc", math.MaxInt - 1, ""},
		{"abcd", -1, "abc"}, {"abcd", -4, ""}, {"abcd", math.MinInt, ""}, {"abcd", math.MaxInt, "abc"},
		{"a", 0, ""}, {"a", 1, ""}, {"a", -1, ""}, {"a", math.MaxInt, ""}, {"a", math.MinInt, ""},
		{"\x00\xff\x80\xc3", 3, "\x00\xff\x80"},
	} {
		expectHurt(t, c.s, api.Fate{Kind: api.Cut, N: c.n}, c.want)
		expectHurt(t, c.s, api.Fate{Kind: api.Cut, N: c.n, Bits: 0xffffffff}, c.want)
	}
}

// P15.2: of no bytes none, whatever the fate.
func TestHurtOfNoBytes(t *testing.T) {
	for _, kind := range kinds() {
		for _, n := range numbers(0) {
			for _, bits := range []uint32{0, 1, 0xffffffff} {
				expectHurt(t, "", api.Fate{Kind: kind, N: n, Bits: bits}, "")
			}
		}
	}
}

// P15.2: of all others the bytes stay; Drop, Twice and Late too.
func TestOthersStay(t *testing.T) {
	for _, kind := range kinds() {
		if kind == api.Flip || kind == api.Cut {
			continue
		}
		for _, n := range numbers(24) {
			for _, bits := range []uint32{0, 1, 0xffffffff} {
				expectHurt(t, "a\x00\xff", api.Fate{Kind: kind, N: n, Bits: bits}, "a\x00\xff")
			}
		}
	}
}

// P15.2: Flip and Cut with N at all edges, of texts of many lengths, hold against a second reading of the words.
func TestHurtAtEdges(t *testing.T) {
	for _, size := range []int{1, 2, 3, 4, 5, 7, 8, 9, 31, 32, 33, 63, 64, 65, 1000, 4099} {
		s := text(size)
		for _, n := range append(numbers(size), numbers(8*size)...) {
			expectHurt(t, s, api.Fate{Kind: api.Cut, N: n}, hurt(s, api.Fate{Kind: api.Cut, N: n}))
			for _, bits := range []uint32{0, 1, 2, 0x80000000, 0x80000001, 0xaaaaaaaa, 0xffffffff} {
				f := api.Fate{Kind: api.Flip, N: n, Bits: bits}
				expectHurt(t, s, f, hurt(s, f))
			}
		}
	}
}

// P15.2: every N of short texts, some rounds on both sides of 0.
func TestHurtOfEachNumber(t *testing.T) {
	for size := range 8 {
		s := text(size)
		for n := -40*size - 20; n <= 40*size+20; n++ {
			for _, f := range []api.Fate{{Kind: api.Cut, N: n}, {Kind: api.Flip, N: n, Bits: 1}, {Kind: api.Flip, N: n, Bits: 0x80010007}} {
				expectHurt(t, s, f, hurt(s, f))
			}
		}
	}
}

// P15.2: drawn texts, kinds, N and Bits.
func TestHurtOfAny(t *testing.T) {
	source := rand.New(rand.NewSource(152))
	for range 20000 {
		s := drawnText(source, 70)
		f := api.Fate{Kind: kinds()[source.Intn(len(kinds()))], N: int(source.Uint64()), Bits: source.Uint32()}
		if source.Intn(3) > 0 {
			f.Kind = 4 + source.Intn(2)
		}
		if source.Intn(2) == 0 {
			f.N = source.Intn(4000) - 2000
		}
		expectHurt(t, s, f, hurt(s, f))
	}
}

// P15.2: of a long text, too: one bit, and all but one byte.
func TestHurtOfLongText(t *testing.T) {
	s := strings.Repeat("\x00", 1<<20)
	last := 8*len(s) - 1
	expectHurt(t, s, api.Fate{Kind: api.Flip, N: last, Bits: 0xffffffff}, s[1:]+"\x80")
	expectHurt(t, s, api.Fate{Kind: api.Flip, N: last + 1, Bits: 1}, "\x01"+s[1:])
	expectHurt(t, s, api.Fate{Kind: api.Cut, N: -1}, s[1:])
}
