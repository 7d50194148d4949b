package frame_test

import (
	"testing"

	"signpost/api"
	"signpost/frame"
)

// P11.1: below 19 bytes there is no frame, whatever they are.
func TestReadShort(t *testing.T) {
	whole, _ := frame.Print(plain("abc"))
	for n := range 19 {
		list := []string{whole[:n], text(n), long(n), string(make([]byte, n))}
		if n >= 4 {
			list = append(list, sealed(text(n-4)), sealed(string(make([]byte, n-4))), sealed(whole[:n-4]))
		}
		for _, s := range list {
			expectNone(t, s, api.ErrShort)
		}
	}
}

// P11.1: 19 bytes may be a frame.
func TestReadNineteen(t *testing.T) {
	s, _ := frame.Print(plain(""))
	if err := expectRead(t, s); len(s) != 19 || err != api.OK {
		t.Errorf("%d bytes, error %d", len(s), err)
	}
	expectNone(t, string(make([]byte, 19)), api.ErrSum)
	expectNone(t, sealed(string(make([]byte, 15))), api.ErrArg)
	expectNone(t, s[:18], api.ErrShort)
	expectNone(t, s+"\x00", api.ErrForm)
}

// P11.1: a told length that is another than there is, though the sum holds.
func TestReadOtherLength(t *testing.T) {
	for _, n := range []int{0, 1, 2, 255, 256, 257, 1000, 64999, 65000} {
		data := long(n)
		for _, length := range []int{n - 1, n + 1, n - 19, n + 19, n - 4, n + 4, n - 15, n + 15, n ^ 256, n ^ 1<<15, n&255<<8 | n>>8, 0, 65535} {
			if length < 0 || length > 65535 || length == n {
				continue
			}
			expectNone(t, raw(1, 2, 3, 4, 5, uint16(length), data), api.ErrForm)
		}
		if err := expectRead(t, raw(1, 2, 3, 4, 5, uint16(n), data)); err != api.OK {
			t.Errorf("%d bytes: error %d", n, err)
		}
	}
}

// P11.1: of all told lengths just the one is right.
func TestReadAllToldLengths(t *testing.T) {
	for _, n := range []int{0, 3, 300} {
		data := long(n)
		for length := range 65536 {
			err := expectRead(t, raw(2, 0, 0, 0, 0, uint16(length), data))
			if (err == api.OK) != (length == n) {
				t.Fatalf("%d told of %d: error %d", length, n, err)
			}
		}
	}
}

// P11.1: Data that is longer than may be is told, though the sum holds; and what can't be told in two bytes doesn't come round to a small one.
func TestReadLongData(t *testing.T) {
	for _, n := range []int{64999, 65000} {
		if err := expectRead(t, raw(1, 2, 3, 4, 5, uint16(n), long(n))); err != api.OK {
			t.Errorf("%d bytes: error %d", n, err)
		}
	}
	for _, n := range []int{65001, 65002, 65516, 65517, 65534, 65535} {
		expectNone(t, raw(1, 2, 3, 4, 5, uint16(n), long(n)), api.ErrArg)
	}
	for _, n := range []int{65536, 65537, 65541, 65555, 66536, 130_535, 1 << 17, 1 << 20} {
		expectNone(t, raw(1, 2, 3, 4, 5, uint16(n), long(n)), api.ErrForm)
		expectNone(t, raw(1, 2, 3, 4, 5, 65535, long(n)), api.ErrForm)
		expectNone(t, raw(1, 2, 3, 4, 5, 65000, long(n)), api.ErrForm)
	}
}

// P11.1: a sum that is wrong in any way in any one of its bytes.
func TestReadWrongSum(t *testing.T) {
	for _, data := range []string{"", "a", text(45), long(1000)} {
		s, _ := frame.Print(plain(data))
		for at := len(s) - 4; at < len(s); at++ {
			for other := 1; other < 256; other++ {
				list := []byte(s)
				list[at] ^= byte(other)
				expectNone(t, string(list), api.ErrSum)
			}
		}
	}
}

// P11.1: the sum of all of that, and as it is told: not the highest byte first, not of Data alone, not of the numbers alone, not one of no bits turned.
func TestReadOtherSums(t *testing.T) {
	s, _ := frame.Print(plain("abc"))
	ahead, sum := s[:len(s)-4], s[len(s)-4:]
	turned := []byte(sum)
	for i := range turned {
		turned[i] ^= 255
	}
	back := string([]byte{sum[3], sum[2], sum[1], sum[0]})
	half := sum[2:] + sum[:2]
	ofData := sealed("abc")[3:]
	ofNumbers := sealed(ahead[:15])[15:]
	for _, other := range []string{back, half, string(turned), ofData, ofNumbers, "\x00\x00\x00\x00", "\xff\xff\xff\xff"} {
		expectNone(t, ahead+other, api.ErrSum)
	}
}

// P11.1: a frame whose sum holds, but that may not be.
func TestReadMayNotBe(t *testing.T) {
	for kind := range 256 {
		for _, data := range []string{"", "abc"} {
			s := raw(byte(kind), 1, 2, 3, 4, uint16(len(data)), data)
			if kind == api.FData || kind == api.FAck {
				if err := expectRead(t, s); err != api.OK {
					t.Errorf("kind %d: error %d", kind, err)
				}
				continue
			}
			expectNone(t, s, api.ErrArg)
		}
	}
	expectNone(t, raw(3, 1, 2, 3, 4, 65001, long(65001)), api.ErrArg)
}

// P11.1: where two things or more are wrong at once, the one that the chapter names first is told.
func TestReadFirstError(t *testing.T) {
	wrongSum := func(s string) string {
		return s[:len(s)-1] + string([]byte{s[len(s)-1] ^ 1})
	}
	for _, c := range []struct {
		name, s string
		want    api.Errno
	}{
		{"short, and all else", "\x03" + long(17), api.ErrShort},
		{"short, and another length, its sum held", sealed("\x03" + long(13)), api.ErrShort},
		{"short, of another kind", string(make([]byte, 18)), api.ErrShort},
		{"another length, and another sum", wrongSum(raw(1, 1, 2, 3, 4, 2, "abc")), api.ErrForm},
		{"another length, and another kind", raw(3, 1, 2, 3, 4, 2, "abc"), api.ErrForm},
		{"another length, and another sum and kind", wrongSum(raw(3, 1, 2, 3, 4, 4, "abc")), api.ErrForm},
		{"another length, and too much Data", raw(1, 1, 2, 3, 4, 65000, long(65001)), api.ErrForm},
		{"another sum and kind", wrongSum(raw(3, 1, 2, 3, 4, 3, "abc")), api.ErrSum},
		{"another sum and kind of nothing", wrongSum(raw(0, 0, 0, 0, 0, 0, "")), api.ErrSum},
		{"another sum, and too much Data", wrongSum(raw(1, 1, 2, 3, 4, 65001, long(65001))), api.ErrSum},
		{"another kind", raw(3, 1, 2, 3, 4, 3, "abc"), api.ErrArg},
		{"another kind, and too much Data", raw(0, 1, 2, 3, 4, 65535, long(65535)), api.ErrArg},
	} {
		f, err := frame.Read(c.s)
		if f != (api.Frame{}) || err != c.want {
			t.Errorf("%s: %s, error %d, not %d", c.name, told(f), err, c.want)
		}
	}
}
