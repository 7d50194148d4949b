package crc_test

import (
	"hash/crc32"
	"math/rand"
	"strings"
	"testing"

	"signpost/api"
	"signpost/crc"
)

// tail is how many bytes a sum takes.
const tail = 4

// someBytes: as many as are asked for, the same ones each time.
func someBytes(seed int64, n int) string {
	list := make([]byte, n)
	rand.New(rand.NewSource(seed)).Read(list)
	return string(list)
}

// bitByBit: the sum as the document's words say it.
func bitByBit(s string) uint32 {
	register := ^uint32(0)
	for i := range len(s) {
		for k := range 8 {
			unlike := register&1 != uint32(s[i]>>k&1)
			register >>= 1
			if unlike {
				register ^= 0xedb88320
			}
		}
	}
	return ^register
}

// P2.1: every byte of the table.
func TestTableHoldsWhatEachByteDoes(t *testing.T) {
	table := crc.Table()
	for b := range 256 {
		want := uint32(b)
		for range 8 {
			if want%2 == 1 {
				want = want/2 ^ 0xedb88320
			} else {
				want /= 2
			}
		}
		if table[b] != want || table[b] != crc32.IEEETable[b] {
			t.Errorf("%d: %08x, not %08x", b, table[b], want)
		}
	}
}

// P2.1: the table is an array of one's own.
func TestTableIsNewEachTime(t *testing.T) {
	table := crc.Table()
	table[1] = 5
	if again := crc.Table(); again[1] != 0x77073096 {
		t.Errorf("%08x", again[1])
	}
	if sum := crc.Sum("123456789"); sum != 0xcbf43926 {
		t.Errorf("%08x", sum)
	}
}

// P2.1
func TestSumOfKnownBytes(t *testing.T) {
	for _, c := range []struct {
		s    string
		want uint32
	}{
		{"", 0},
		{"\x00", 0xd202ef8d},
		{"\xff", 0xff000000},
		{"a", 0xe8b7be43},
		{"123456789", 0xcbf43926},
		{strings.Repeat("\x00", 4), 0x2144df1c},
		{strings.Repeat("\xff", 4), 0xffffffff},
		{strings.Repeat("\x00", 32), 0x190a55ad},
		{strings.Repeat("\xff", 32), 0xff6cab0b},
	} {
		if sum := crc.Sum(c.s); sum != c.want {
			t.Errorf("%q: %08x, not %08x", c.s, sum, c.want)
		}
	}
}

// P2.1: every byte, and every length up to some hundreds, by the document's words and by another sum.
func TestSumOfManyBytes(t *testing.T) {
	for b := range 256 {
		s := string([]byte{byte(b)})
		if sum := crc.Sum(s); sum != bitByBit(s) {
			t.Errorf("%q: %08x", s, sum)
		}
	}
	all := someBytes(1, 70000)
	for n := range 1100 {
		if sum := crc.Sum(all[:n]); sum != bitByBit(all[:n]) || sum != crc32.ChecksumIEEE([]byte(all[:n])) {
			t.Errorf("%d bytes: %08x", n, sum)
		}
	}
	if sum := crc.Sum(all); sum != bitByBit(all) {
		t.Errorf("%08x", sum)
	}
}

// P2.1: wherever bytes are cut, the sum goes on.
func TestMoreGoesOn(t *testing.T) {
	s := someBytes(2, 700)
	want := crc.Sum(s)
	for cut := range len(s) + 1 {
		if sum := crc.More(crc.Sum(s[:cut]), s[cut:]); sum != want {
			t.Errorf("cut at %d: %08x, not %08x", cut, sum, want)
		}
	}
	one := uint32(0)
	for i := range len(s) {
		one = crc.More(one, s[i:i+1])
	}
	if one != want {
		t.Errorf("byte by byte: %08x, not %08x", one, want)
	}
}

// P2.1: any number is a sum that can be gone on with; nothing behind it leaves it.
func TestMoreOfAnySum(t *testing.T) {
	for _, sum := range []uint32{0, 1, 0x80000000, 0xedb88320, 0xcbf43926, 0xffffffff} {
		if got := crc.More(sum, ""); got != sum {
			t.Errorf("%08x: %08x", sum, got)
		}
		for _, n := range []int{1, 4, 255, 256, 257, 1000} {
			s := someBytes(3, n)
			if got, want := crc.More(sum, s), crc32.Update(sum, crc32.IEEETable, []byte(s)); got != want {
				t.Errorf("%08x and %d bytes: %08x, not %08x", sum, n, got, want)
			}
		}
	}
}

// P2.1: the sum behind the bytes, its lowest byte first.
func TestSealPutsTheSumBehind(t *testing.T) {
	for s, want := range map[string]string{
		"":          "\x00\x00\x00\x00",
		"123456789": "123456789\x26\x39\xf4\xcb",
		"\xff":      "\xff\x00\x00\x00\xff",
	} {
		if sealed := crc.Seal(s); sealed != want {
			t.Errorf("%q: %q, not %q", s, sealed, want)
		}
	}
}

// P2.1
func TestOpenTakesWhatSealGave(t *testing.T) {
	for n := range 600 {
		s := someBytes(4, n)
		if got, err := crc.Open(crc.Seal(s)); got != s || err != api.OK {
			t.Errorf("%d bytes: error %d", n, err)
		}
	}
	if got, err := crc.Open(crc.Seal(crc.Seal("twice"))); got != crc.Seal("twice") || err != api.OK {
		t.Errorf("%q, error %d", got, err)
	}
}

// P2.1: fewer than 4 bytes.
func TestOpenOfTooFew(t *testing.T) {
	for _, s := range []string{"", "\x00", "\x00\x00", "\x00\x00\x00", "abc", crc.Seal("")[:3]} {
		if got, err := crc.Open(s); got != "" || err != api.ErrShort {
			t.Errorf("%q: %q, error %d", s, got, err)
		}
	}
}

// P2.1: the last 4 aren't the sum of those ahead.
func TestOpenOfAnotherSum(t *testing.T) {
	sealed := crc.Seal("some bytes")
	wrong := []string{
		"abcd",
		"\x01\x00\x00\x00",
		"\x00\x00\x00\x01",
		"123456789\xcb\xf4\x39\x26", // the highest byte first
		"123456789\xd9\xc6\x0b\x34", // the register, not turned
		"some byteS" + sealed[10:],
		sealed + "\x00",
		"\x00" + sealed,
	}
	for n := tail; n < len(sealed); n++ {
		wrong = append(wrong, sealed[:n])
	}
	for _, s := range wrong {
		if got, err := crc.Open(s); got != "" || err != api.ErrSum {
			t.Errorf("%q: %q, error %d", s, got, err)
		}
	}
}
