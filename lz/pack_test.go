package lz_test

import (
	"slices"
	"strings"
	"testing"

	"signpost/api"
	"signpost/lz"
)

// mixed is a row of bytes that look like any, below some number.
func mixed(n int, seed uint64, below int) string {
	list := make([]byte, n)
	for i := range list {
		seed = seed*6364136223846793005 + 1442695040888963407
		list[i] = byte(seed >> 33 % uint64(below))
	}
	return string(list)
}

// fresh is a text of n bytes in which no three bytes stand twice. Behind two noughts, the greatest byte that makes new three is always to be had, for as long as 256^3 bytes.
func fresh(n int) string {
	seen := map[string]bool{}
	text := []byte{0, 0}
	for len(text) < n {
		three := append(slices.Clone(text[len(text)-2:]), 255)
		for seen[string(three)] {
			three[2]--
		}
		seen[string(three)] = true
		text = append(text, three[2])
	}
	return string(text[:n])
}

// farThrees is a text whose later threes have all stood once, but far ahead, each alone.
func farThrees() string {
	begin := fresh(30_000)
	text := []byte(begin)
	for i := 0; len(text)+3 <= 65536; i++ {
		at := i * 7919 % 29_000
		text = append(text, begin[at:at+3]...)
	}
	return string(text)
}

// texts are many ones, with the edges.
func texts() []string {
	list := []string{
		"", "a", "\x00", "ab", "aa", "abc", "aaa", "abcd", "aaaa", "aaab", "abab", "abaab",
		"aaaaaa", "abcabc", "abcabcabc", "abcXabc", "\x00\xff\x00\xff\x00\xff",
		"the quick brown fox, the quick brown dog, the quick",
		strings.Repeat("x", 65536), strings.Repeat("abcd", 300), strings.Repeat("abcd", 16384),
		mixed(65536, 1, 256), mixed(65536, 2, 2), mixed(65535, 3, 16), mixed(20_000, 4, 4),
		fresh(65536), fresh(1000), fresh(1000) + fresh(1000), farThrees(),
		mixed(32768, 5, 256) + mixed(32768, 5, 256),
		mixed(300, 6, 256) + strings.Repeat("y", 40_000) + mixed(300, 6, 256),
	}
	for n := range 300 {
		list = append(list, strings.Repeat("z", n), mixed(n, 7, 3), mixed(n, uint64(n), 256))
	}
	return list
}

// expectPacked holds that a text is packed to packed bytes of it, as the judge reads them, no more than there may be.
func expectPacked(t *testing.T, s string) string {
	t.Helper()
	p, err := lz.Pack(s)
	if err != api.OK {
		t.Fatalf("%d bytes, %.20x: error %d", len(s), s, err)
	}
	if _, text, e := judged(p); e != api.OK || text != s {
		t.Errorf("%d bytes, %.20x: packed %.20x, which is another text, error %d", len(s), s, p, e)
	}
	if most := (9*len(s) + 40 + 7) / 8; len(p) > most {
		t.Errorf("%d bytes, %.20x: %d bytes packed, more than %d", len(s), s, len(p), most)
	}
	return p
}

// P5.1: packed bytes, no more than 9 bits a byte and 40 more. P5.3: they are unpacked as they were.
func TestPack(t *testing.T) {
	for _, s := range texts() {
		p := expectPacked(t, s)
		if u, err := lz.Unpack(p, len(s)); u != s || err != api.OK {
			t.Errorf("%d bytes, %.20x: unpacked %.20x, error %d", len(s), s, u, err)
		}
		if again, _ := lz.Pack(s); again != p {
			t.Errorf("%d bytes, %.20x: packed otherwise the second time", len(s), s)
		}
	}
}

// P5.1: all texts of up to eight bytes of two letters, and up to six of three.
func TestPackShort(t *testing.T) {
	for letters, most := range map[int]int{2: 8, 3: 6} {
		list := []string{""}
		for range most {
			var longer []string
			for _, s := range list {
				expectPacked(t, s)
				for b := range letters {
					longer = append(longer, s+string([]byte{'a' + byte(b)}))
				}
			}
			list = longer
		}
		for _, s := range list {
			expectPacked(t, s)
		}
	}
}

// P5.1: where no three bytes stand twice there is no copy to be had, so that all are bytes; still there are no more bits than may be.
func TestPackFresh(t *testing.T) {
	for _, n := range []int{1, 2, 3, 4, 100, 256, 65535, 65536} {
		s := fresh(n)
		list, err := lz.Tokens(expectPacked(t, s))
		if err != api.OK || len(list) != n {
			t.Errorf("%d bytes: %d tokens, error %d", n, len(list), err)
		}
	}
}

// P5.1: ErrBig above 65536 bytes, of any ones.
func TestPackBig(t *testing.T) {
	for _, n := range []int{65537, 65538, 1 << 20} {
		for _, s := range []string{strings.Repeat("x", n), mixed(n, 1, 256)} {
			if p, err := lz.Pack(s); p != "" || err != api.ErrBig {
				t.Errorf("%d bytes: %d bytes, error %d", n, len(p), err)
			}
		}
	}
	for _, n := range []int{65535, 65536} {
		if _, err := lz.Pack(mixed(n, 1, 256)); err != api.OK {
			t.Errorf("%d bytes: error %d", n, err)
		}
	}
}

// The document's example, and others of which each has but one way that spares bits.
func TestPackExample(t *testing.T) {
	for _, c := range []struct {
		s    string
		list []lz.Token
	}{
		{"aaaaaa", []lz.Token{{B: 'a'}, {Back: 1, Len: 5}}},
		{"aaaa", []lz.Token{{B: 'a'}, {Back: 1, Len: 3}}},
		{"aaa", []lz.Token{{B: 'a'}, {B: 'a'}, {B: 'a'}}},
		{"abcabc", []lz.Token{{B: 'a'}, {B: 'b'}, {B: 'c'}, {Back: 3, Len: 3}}},
		{"abcabcabca", []lz.Token{{B: 'a'}, {B: 'b'}, {B: 'c'}, {Back: 3, Len: 7}}},
	} {
		list, err := lz.Tokens(expectPacked(t, c.s))
		if err != api.OK || !slices.Equal(list, c.list) {
			t.Errorf("%s: %v, error %d; not %v", c.s, list, err, c.list)
		}
	}
}

// P5.3: one byte, over and over, is a few bytes; so is anything that comes again.
func TestPackSpares(t *testing.T) {
	for n := range 2000 {
		for _, b := range []string{"x", "\x00", "\xff"} {
			if p, _ := lz.Pack(strings.Repeat(b, n)); len(p) > 8 {
				t.Errorf("%x, %d times: %d bytes", b, n, len(p))
			}
		}
	}
	if p, _ := lz.Pack(strings.Repeat("x", 65536)); len(p) > 10 {
		t.Errorf("65536 times: %d bytes", len(p))
	}
	half := mixed(30_000, 8, 256)
	if p, _ := lz.Pack(half + half); len(p) > (9*len(half)+40)/8+12 {
		t.Errorf("twice the same: %d bytes", len(p))
	}
	// A copy may begin within an earlier one.
	if p, _ := lz.Pack(half[:100] + "-" + half[:100] + "+" + half[50:100]); len(p) > 9*102/8+15 {
		t.Errorf("from within a copy: %d bytes", len(p))
	}
}

// P5.1, P5.3, of any text, and P5.2, of any bytes.
func FuzzBoth(f *testing.F) {
	f.Add("aaaaaa")
	f.Add("the quick brown fox, the quick brown dog")
	f.Add(lz.Print(9, []lz.Token{{B: 'a'}, {B: 'b'}, {Back: 2, Len: 7}}))
	f.Fuzz(func(t *testing.T, s string) {
		hold(t, s)
		if len(s) <= 65536 {
			hold(t, expectPacked(t, s))
		}
	})
}
