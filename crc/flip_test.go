package crc_test

import (
	"math"
	"math/rand"
	"strings"
	"testing"

	"signpost/api"
	"signpost/crc"
)

// turnedOneByOne: what Flip should answer, asked for each bit of s.
func turnedOneByOne(s string, at int, bits uint32) string {
	list := []byte(s)
	for k := range 8 * len(s) {
		for i := range 32 {
			if k-i == at && bits>>i&1 == 1 {
				list[k/8] ^= 1 << (k % 8)
			}
		}
	}
	return string(list)
}

// P2.2
func TestFlipTurnsBits(t *testing.T) {
	zero := "\x00\x00\x00\x00\x00\x00"
	for _, c := range []struct {
		s    string
		at   int
		bits uint32
		want string
	}{
		{zero, 0, 1, "\x01\x00\x00\x00\x00\x00"},
		{zero, 0, 0x80000001, "\x01\x00\x00\x80\x00\x00"},
		{zero, 7, 3, "\x80\x01\x00\x00\x00\x00"},
		{zero, 0, 0xffffffff, "\xff\xff\xff\xff\x00\x00"},
		{zero, 16, 0xffffffff, "\x00\x00\xff\xff\xff\xff"},
		{zero, 4, 0xffffffff, "\xf0\xff\xff\xff\x0f\x00"},
		{zero, 0, 0x04030201, "\x01\x02\x03\x04\x00\x00"},
		{"\xff\xff", 3, 0x21, "\xf7\xfe"},
		{"ab", 0, 0, "ab"},
		{"ab", 0, 0x303, "ba"},
	} {
		if got := crc.Flip(c.s, c.at, c.bits); got != c.want {
			t.Errorf("%q at %d, %x: %q, not %q", c.s, c.at, c.bits, got, c.want)
		}
	}
}

// P2.2: the first and the last place, and just ahead of and behind them.
func TestFlipAtTheEdges(t *testing.T) {
	for _, c := range []struct {
		at   int
		bits uint32
		want string
	}{
		{0, 1, "\x01\x00"},
		{15, 1, "\x00\x80"},
		{15, 0xffffffff, "\x00\x80"},
		{16, 0xffffffff, "\x00\x00"},
		{17, 0xffffffff, "\x00\x00"},
		{14, 0xffffffff, "\x00\xc0"},
		{-1, 1, "\x00\x00"},
		{-1, 2, "\x01\x00"},
		{-1, 0xffffffff, "\xff\xff"},
		{-16, 0xffffffff, "\xff\xff"},
		{-17, 0xffffffff, "\xff\x7f"},
		{-31, 0xffffffff, "\x01\x00"},
		{-31, 0x7fffffff, "\x00\x00"},
		{-31, 0x80000000, "\x01\x00"},
		{-32, 0xffffffff, "\x00\x00"},
		{-33, 0xffffffff, "\x00\x00"},
	} {
		if got := crc.Flip("\x00\x00", c.at, c.bits); got != c.want {
			t.Errorf("at %d, %x: %q, not %q", c.at, c.bits, got, c.want)
		}
	}
}

// P2.2: places that are far away, and bytes that aren't there.
func TestFlipOfNothing(t *testing.T) {
	far := []int{math.MinInt, math.MinInt + 1, math.MinInt + 31, math.MinInt / 8, math.MinInt32, -33, 24, math.MaxInt32, math.MaxInt / 8, math.MaxInt - 31, math.MaxInt - 30, math.MaxInt - 1, math.MaxInt}
	for _, at := range far {
		for _, bits := range []uint32{0, 1, 0x80000000, 0xffffffff} {
			if got := crc.Flip("abc", at, bits); got != "abc" {
				t.Errorf("at %d, %x: %q", at, bits, got)
			}
		}
	}
	for at := -40; at < 40; at++ {
		if got := crc.Flip("", at, 0xffffffff); got != "" {
			t.Errorf("at %d: %q", at, got)
		}
		if got := crc.Flip("abc", at, 0); got != "abc" {
			t.Errorf("at %d: %q", at, got)
		}
	}
}

// P2.2: any bits anywhere, and what is turned twice is as it was.
func TestFlipOfAnyBits(t *testing.T) {
	random := rand.New(rand.NewSource(5))
	for range 3000 {
		s := someBytes(random.Int63(), random.Intn(12))
		at, bits := random.Intn(8*len(s)+80)-40, random.Uint32()
		got := crc.Flip(s, at, bits)
		if want := turnedOneByOne(s, at, bits); got != want {
			t.Fatalf("%q at %d, %x: %q, not %q", s, at, bits, got, want)
		}
		if again := crc.Flip(got, at, bits); again != s {
			t.Fatalf("%q at %d, %x twice: %q", s, at, bits, again)
		}
	}
}

// expectShut holds that sealed bytes with bits turned aren't opened.
func expectShut(t *testing.T, sealed string, at int, bits uint32) {
	t.Helper()
	hurt := crc.Flip(sealed, at, bits)
	if hurt == sealed {
		t.Fatalf("%d bytes at %d, %x: nothing is turned", len(sealed), at, bits)
	}
	if got, err := crc.Open(hurt); got != "" || err != api.ErrSum {
		t.Fatalf("%d bytes at %d, %x: %q, error %d", len(sealed), at, bits, got, err)
	}
}

// P2.3: bursts of every length from 1 to 32, at every place, also where they stand out of the bytes.
func TestBurstsAreTold(t *testing.T) {
	random := rand.New(rand.NewSource(6))
	for _, n := range []int{0, 1, 3, 10, 61, 300} {
		sealed := crc.Seal(someBytes(7, n))
		for at := range 8 * len(sealed) {
			for long := range 32 {
				ends := uint32(1) | 1<<long
				all := ends | (1<<long - 1)
				expectShut(t, sealed, at, ends)
				expectShut(t, sealed, at, all)
				expectShut(t, sealed, at, ends|random.Uint32()&all)
			}
		}
		for ahead := 1; ahead < 32; ahead++ {
			expectShut(t, sealed, -ahead, 0xffffffff)
			expectShut(t, sealed, -ahead, 1<<ahead)
		}
	}
}

// P2.3: every burst of up to 16 bits.
func TestAllShortBurstsAreTold(t *testing.T) {
	sealed := crc.Seal("abc")
	for at := range 8 * len(sealed) {
		for bits := uint32(1); bits < 1<<16; bits += 2 {
			expectShut(t, sealed, at, bits)
		}
	}
}

// syndrome: in which bits the sum differs from the one that is there, once a bit is turned.
func syndrome(sealed string, at int) uint32 {
	hurt := crc.Flip(sealed, at, 1)
	n := len(hurt) - tail
	kept := uint32(0)
	for i := range tail {
		kept |= uint32(hurt[n+i]) << (8 * i)
	}
	return crc.Sum(hurt[:n]) ^ kept
}

// P2.3: bits that are turned together differ in the exclusive-or of what each of them does. So all the bursts of 32 bits at a place are told, if none of its 32 bits does what some others do together.
func TestNoBitsOfABurstCancelOut(t *testing.T) {
	sealed := crc.Seal(someBytes(8, 90))
	for at := range 8*len(sealed) - 31 {
		var basis [32]uint32 // by their highest bits
		for i := range 32 {
			rest := syndrome(sealed, at+i)
			for high := 31; high >= 0 && rest != 0; high-- {
				if rest>>high == 1 && basis[high] == 0 {
					basis[high] = rest
					break
				}
				if rest>>high == 1 {
					rest ^= basis[high]
				}
			}
			if rest == 0 {
				t.Fatalf("at %d: bit %d does what others do together", at, i)
			}
		}
	}
}

// P2.3: long bytes are shut too.
func TestBurstsInLongBytes(t *testing.T) {
	sealed := crc.Seal(strings.Repeat(someBytes(9, 997), 66))
	for at := 0; at < 8*len(sealed); at += 4001 {
		expectShut(t, sealed, at, 0xffffffff)
		expectShut(t, sealed, at, 0xedb88321)
		expectShut(t, sealed, at, 1)
	}
	expectShut(t, sealed, 8*len(sealed)-1, 1)
}
