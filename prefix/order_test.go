package prefix_test

import (
	"math"
	"strings"
	"testing"

	"signpost/api"
	"signpost/prefix"
)

// four: a prefix of four bytes, made by hand.
func four(a, b, c, d byte, n int) api.Prefix {
	return api.Prefix{Addr: [16]byte{a, b, c, d}, Len: n}
}

// six: one of sixteen, of which these bytes come first.
func six(first string, n int) api.Prefix {
	p := api.Prefix{Six: true, Len: n}
	copy(p.Addr[:], first)
	return p
}

// most: how many bits a prefix of that kind may have.
func most(isSix bool) int {
	if isSix {
		return 128
	}
	return 32
}

// bitText: an address's bits as the digits 0 and 1, worked out one by one.
func bitText(addr [16]byte) string {
	var list []byte
	for _, b := range addr {
		for weight := 128; weight > 0; weight /= 2 {
			list = append(list, '0'+b/byte(weight))
			b %= byte(weight)
		}
	}
	return string(list)
}

// mayBe: the chapter's words, of the bits as digits.
func mayBe(p api.Prefix) bool {
	return 0 <= p.Len && p.Len <= most(p.Six) && !strings.Contains(bitText(p.Addr)[p.Len:], "1")
}

// bitsOf: a prefix's bits, as digits.
func bitsOf(p api.Prefix) string { return bitText(p.Addr)[:p.Len] }

// addresses are some of sixteen bytes, their bits near bytes' ends among others.
func addresses() []string {
	return []string{
		strings.Repeat("\x00", 16),
		strings.Repeat("\xff", 16),
		"\x0a\x01\x80\x7f\x00\x00\x00\x01\xfe\x00\x00\x00\x00\x00\x00\x01",
		"\x80\x00\x00\x01\x00\x00\x00\x00\x00\x00\x00\x00\x00\x00\x00\x01",
		"\x20\x01\x0d\xb8\x00\x01\x55\xaa\xc3\x3c\x81\x18\x0f\xf0\x7e\xe7",
	}
}

// rights are prefixes of both kinds, of all lengths.
func rights(t *testing.T) []api.Prefix {
	t.Helper()
	var list []api.Prefix
	for _, addr := range addresses() {
		for _, isSix := range []bool{false, true} {
			for n := range most(isSix) + 1 {
				p, err := prefix.Make(isSix, addr[:most(isSix)/8], n)
				if err != api.OK {
					t.Fatalf("%x %d: %d", addr, n, err)
				}
				list = append(list, p)
			}
		}
	}
	return list
}

// wrongs are prefixes that may not be.
func wrongs() []api.Prefix {
	list := []api.Prefix{
		four(0, 0, 0, 0, -1), four(0, 0, 0, 0, 33), four(0, 0, 0, 0, 64), four(0, 0, 0, 0, 128),
		four(0, 0, 0, 0, math.MinInt), four(0, 0, 0, 0, math.MaxInt), four(10, 0, 0, 0, -8),
		six("", -1), six("", 129), six("", 192), six("", math.MinInt), six("", math.MaxInt),
		four(1, 0, 0, 0, 0), four(128, 0, 0, 0, 0), four(10, 0, 0, 0, 6), four(10, 1, 0, 0, 8), four(10, 1, 0, 0, 15), four(0, 0, 0, 1, 31),
		six("\x80", 0), six("\x20\x01", 15), six(strings.Repeat("\x00", 15)+"\x01", 127), six(strings.Repeat("\xff", 16), 127), six("\x00\x00\x00\x00\x01", 32),
	}
	// Bytes of Addr that a prefix of four bytes doesn't have.
	for i := 4; i < 16; i++ {
		for _, n := range []int{0, 8, 31, 32} {
			p := four(0, 0, 0, 0, n)
			p.Addr[i] = 1
			list = append(list, p)
			p.Addr[i] = 128
			list = append(list, p)
		}
	}
	return list
}

// P3.1: Right, of prefixes that may be, and of those that may not.
func TestRight(t *testing.T) {
	list := append(rights(t), api.Prefix{}, api.Prefix{Six: true}, four(10, 0, 0, 0, 7), four(10, 0, 0, 0, 8), four(0, 0, 0, 0, 32), six("", 128), six(strings.Repeat("\xff", 16), 128))
	for _, p := range list {
		if !prefix.Right(p) || !mayBe(p) {
			t.Errorf("%v may be", p)
		}
	}
	for _, p := range wrongs() {
		if prefix.Right(p) {
			t.Errorf("%v may not be", p)
		}
	}
}

// P3.1: with each bit alone, at each length.
func TestRightOfEachBit(t *testing.T) {
	for i := range 128 {
		for n := -1; n <= 129; n++ {
			for _, isSix := range []bool{false, true} {
				p := api.Prefix{Six: isSix, Len: n}
				p.Addr[i/8] = 128 >> (i % 8)
				want := i < n && n <= most(isSix)
				if prefix.Right(p) != want {
					t.Fatalf("%v: not %v", p, want)
				}
			}
		}
	}
}

// P3.1: Make keeps the first n bits, the others are 0.
func TestMake(t *testing.T) {
	for _, addr := range addresses() {
		for _, isSix := range []bool{false, true} {
			addr := addr[:most(isSix)/8]
			var whole [16]byte
			copy(whole[:], addr)
			for n := range most(isSix) + 1 {
				p, err := prefix.Make(isSix, addr, n)
				want := bitText(whole)[:n] + strings.Repeat("0", 128-n)
				if err != api.OK || p.Six != isSix || p.Len != n || bitText(p.Addr) != want {
					t.Fatalf("%x %d: %v %d", addr, n, p, err)
				}
			}
		}
	}
}

// P3.1: Make, of ends.
func TestMakeAtEnds(t *testing.T) {
	all := strings.Repeat("\xff", 16)
	for _, c := range []struct {
		six  bool
		addr string
		n    int
		want api.Prefix
	}{
		{false, all[:4], 0, api.Prefix{}},
		{false, all[:4], 1, four(128, 0, 0, 0, 1)},
		{false, all[:4], 8, four(255, 0, 0, 0, 8)},
		{false, all[:4], 13, four(255, 248, 0, 0, 13)},
		{false, all[:4], 31, four(255, 255, 255, 254, 31)},
		{false, all[:4], 32, four(255, 255, 255, 255, 32)},
		{true, all, 0, api.Prefix{Six: true}},
		{true, all, 33, six("\xff\xff\xff\xff\x80", 33)},
		{true, all, 127, six(all[:15]+"\xfe", 127)},
		{true, all, 128, six(all, 128)},
	} {
		if p, err := prefix.Make(c.six, c.addr, c.n); p != c.want || err != api.OK {
			t.Errorf("%x %d: %v %d", c.addr, c.n, p, err)
		}
	}
}

// P3.1: what Make refuses.
func TestMakeRefuses(t *testing.T) {
	for size := range 34 {
		addr := strings.Repeat("\x01", size)
		for _, isSix := range []bool{false, true} {
			for _, n := range []int{math.MinInt, -9, -1, 0, 1, 32, 33, 128, 129, 256, math.MaxInt} {
				good := size == most(isSix)/8 && n >= 0 && n <= most(isSix)
				p, err := prefix.Make(isSix, addr, n)
				if good != (err == api.OK) || !good && (err != api.ErrArg || p != api.Prefix{}) {
					t.Errorf("%v, %d bytes, %d: %v %d", isSix, size, n, p, err)
				}
			}
		}
	}
}

// P3.1: the order, each one ahead of all behind it: by the kind, by Addr, by Len, of prefixes that may not be too.
func TestCompare(t *testing.T) {
	rising := []api.Prefix{
		four(0, 0, 0, 0, math.MinInt), four(0, 0, 0, 0, -1), four(0, 0, 0, 0, 0), four(0, 0, 0, 0, 1), four(0, 0, 0, 0, 32), four(0, 0, 0, 0, 33), four(0, 0, 0, 0, math.MaxInt),
		{Addr: [16]byte{15: 1}, Len: 0}, {Addr: [16]byte{4: 1}, Len: -3}, {Addr: [16]byte{4: 1}, Len: 8},
		four(0, 0, 0, 1, 32), four(0, 0, 1, 0, 24), four(1, 0, 0, 0, 8),
		four(10, 0, 0, 0, 7), four(10, 0, 0, 0, 8), four(10, 0, 0, 0, 9), four(10, 0, 0, 1, 32), four(10, 1, 0, 0, 16), four(10, 128, 0, 0, 9), four(11, 0, 0, 0, 8),
		four(127, 255, 255, 255, 32), four(128, 0, 0, 0, 1), four(255, 0, 0, 0, 8), four(255, 255, 255, 255, 32),
		six("", -1), six("", 0), six("", 1), six("", 128), six(strings.Repeat("\x00", 15)+"\x01", 128), six("\x0a", 8), six("\x0a", 9), six("\x20\x01", 16), six(strings.Repeat("\xff", 16), 128),
	}
	for i, a := range rising {
		for j, b := range rising {
			want := 0
			if i < j {
				want = -1
			} else if i > j {
				want = 1
			}
			if got := prefix.Compare(a, b); got != want {
				t.Errorf("%v %v: %d", a, b, got)
			}
		}
	}
}

// firstAlike: how many first bytes of two texts are the same.
func firstAlike(a, b string) int {
	n := 0
	for n < min(len(a), len(b)) && a[n] == b[n] {
		n++
	}
	return n
}

// P3.1: Contains and Common, by the bits as digits.
func TestContainsAndCommon(t *testing.T) {
	list := rights(t)
	texts := make([]string, len(list))
	for i, p := range list {
		texts[i] = bitsOf(p)
	}
	for i, a := range list {
		for j, b := range list {
			in, common := false, -1
			if a.Six == b.Six {
				in = strings.HasPrefix(texts[j], texts[i])
				common = firstAlike(texts[i], texts[j])
			}
			if prefix.Contains(a, b) != in || prefix.Common(a, b) != common {
				t.Fatalf("%v %v: %v %d, not %v %d", a, b, prefix.Contains(a, b), prefix.Common(a, b), in, common)
			}
		}
	}
}

// P3.1: the example, and prefixes beside each other, themselves, and those of the other kind.
func TestContainsAndCommonExamples(t *testing.T) {
	ten, tenOne := four(10, 0, 0, 0, 8), four(10, 1, 0, 0, 16)
	none, sixNone := api.Prefix{}, api.Prefix{Six: true}
	for _, c := range []struct {
		a, b   api.Prefix
		in     bool
		common int
	}{
		{ten, tenOne, true, 8}, {tenOne, ten, false, 8}, {ten, ten, true, 8},
		{ten, four(11, 0, 0, 0, 8), false, 7}, {ten, four(138, 0, 0, 0, 8), false, 0}, {tenOne, four(10, 0, 0, 0, 16), false, 15},
		{none, none, true, 0}, {none, ten, true, 0}, {ten, none, false, 0}, {none, four(255, 255, 255, 255, 32), true, 0},
		{none, sixNone, false, -1}, {sixNone, none, false, -1}, {sixNone, sixNone, true, 0}, {ten, six("\x0a", 8), false, -1}, {sixNone, six("\x0a", 8), true, 0},
		{four(255, 255, 255, 254, 32), four(255, 255, 255, 255, 32), false, 31}, {four(255, 255, 255, 254, 31), four(255, 255, 255, 255, 32), true, 31},
		{six(strings.Repeat("\xff", 16), 128), six(strings.Repeat("\xff", 16), 128), true, 128},
	} {
		if prefix.Contains(c.a, c.b) != c.in || prefix.Common(c.a, c.b) != c.common {
			t.Errorf("%v %v: %v %d", c.a, c.b, prefix.Contains(c.a, c.b), prefix.Common(c.a, c.b))
		}
	}
}

// P3.1: a prefix that may not be contains none, is in none, and has nothing in common.
func TestWrongOnesContainNone(t *testing.T) {
	for _, w := range wrongs() {
		others := append(wrongs(), api.Prefix{}, api.Prefix{Six: true}, four(10, 0, 0, 0, 8), four(0, 0, 0, 0, 32), six("", 128), w)
		for _, p := range others {
			if prefix.Contains(w, p) || prefix.Contains(p, w) || prefix.Common(w, p) != -1 || prefix.Common(p, w) != -1 {
				t.Errorf("%v %v", w, p)
			}
		}
	}
}

// P3.1: Bit, of every place, and of those that there are not.
func TestBit(t *testing.T) {
	for _, p := range rights(t) {
		digits := bitsOf(p)
		for i := -2; i < 140; i++ {
			want := -1
			if 0 <= i && i < p.Len {
				want = int(digits[i] - '0')
			}
			if got := prefix.Bit(p, i); got != want {
				t.Fatalf("%v %d: %d", p, i, got)
			}
		}
		for _, i := range []int{math.MinInt, math.MaxInt} {
			if prefix.Bit(p, i) != -1 {
				t.Errorf("%v %d", p, i)
			}
		}
	}
	for _, p := range wrongs() {
		for _, i := range []int{math.MinInt, -1, 0, 1, 7, 8, 31, 32, 127, 128, 200, math.MaxInt} {
			if got := prefix.Bit(p, i); got != -1 {
				t.Errorf("%v %d: %d", p, i, got)
			}
		}
	}
}
