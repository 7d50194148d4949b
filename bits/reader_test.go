package bits_test

import (
	"math"
	"strings"
	"testing"

	"signpost/api"
	"signpost/bits"
)

// noughts are so many bytes of no bit that is 1.
func noughts(n int) string { return strings.Repeat("\x00", n) }

// expectErr holds what is wrong with a Reader, and that behind it every call answers 0 and changes nothing.
func expectErr(t *testing.T, what string, r *bits.Reader, err api.Errno) {
	t.Helper()
	left := r.Left()
	for range 2 {
		for _, n := range []int{0, 1, 64, -1, 65, math.MinInt, math.MaxInt} {
			if v := r.Bits(n); v != 0 {
				t.Errorf("%s: Bits(%d) behind it: %d", what, n, v)
			}
		}
		if v := r.Code(); v != 0 {
			t.Errorf("%s: Code behind it: %d", what, v)
		}
		if r.Err() != err || r.Done() != err {
			t.Errorf("%s: error %d, done %d; not %d", what, r.Err(), r.Done(), err)
		}
		if r.Left() != left {
			t.Errorf("%s: left %d, then %d", what, left, r.Left())
		}
	}
}

// expectLeft holds that nothing is wrong with a Reader, and what is left in it.
func expectLeft(t *testing.T, what string, r *bits.Reader, left int) {
	t.Helper()
	if r.Err() != api.OK || r.Left() != left {
		t.Errorf("%s: error %d, left %d; not left %d", what, r.Err(), r.Left(), left)
	}
}

// P4.2: bits are taken from the front, the lowest of the first byte first.
func TestReaderBits(t *testing.T) {
	r := bits.NewReader("\x2d\xbc\x1a\x10\x32\x54\x76\x98\xba\xdc\xfe")
	expectLeft(t, "new", r, 88)
	left := 88
	for _, c := range []struct {
		n    int
		want uint64
	}{
		{0, 0},
		{1, 1}, {1, 0}, {1, 1}, {1, 1},
		{4, 2},
		{12, 0xabc},
		{0, 0},
		{4, 1},
		{63, 0x7edcba9876543210},
		{1, 1},
		{0, 0},
	} {
		if got := r.Bits(c.n); got != c.want {
			t.Errorf("Bits(%d) with %d left: %x, not %x", c.n, left, got, c.want)
		}
		left -= c.n
		expectLeft(t, "Bits", r, left)
	}
	if r.Done() != api.OK {
		t.Error(r.Done())
	}
}

// P4.2: all 64 bits of one call, from every place in a byte.
func TestReaderBits64(t *testing.T) {
	const mixed = 0xfedcba9876543210
	for ahead := range 9 {
		row := strings.Repeat("1", ahead) + lowest(mixed, 64)
		r := bits.NewReader(packed(row))
		r.Bits(ahead)
		if v := r.Bits(64); v != mixed || r.Done() != api.OK {
			t.Errorf("behind %d: %x, done %d", ahead, v, r.Done())
		}
	}
}

// P4.2: ErrArg, unless n is 0 to 64, whatever is left.
func TestReaderBitsArg(t *testing.T) {
	for _, n := range []int{-1, -64, math.MinInt, 65, 66, 128, math.MaxInt} {
		for _, s := range []string{"", "\xff", strings.Repeat("\xff", 40)} {
			r := bits.NewReader(s)
			if v := r.Bits(n); v != 0 {
				t.Errorf("%d of %x: %d", n, s, v)
			}
			expectErr(t, "Bits", r, api.ErrArg)
		}
	}
}

// P4.2: ErrShort, if fewer are left; just as many are enough.
func TestReaderBitsShort(t *testing.T) {
	for size := range 10 {
		for taken := range 8*size + 1 {
			for n := range 65 {
				r := bits.NewReader(strings.Repeat("\xff", size))
				for range taken {
					r.Bits(1)
				}
				expectLeft(t, "taken", r, 8*size-taken)
				v := r.Bits(n)
				if taken+n <= 8*size {
					if v != 1<<n-1 {
						t.Errorf("%d of %d: %x", n, 8*size-taken, v)
					}
					expectLeft(t, "enough", r, 8*size-taken-n)
					continue
				}
				if v != 0 {
					t.Errorf("%d of %d: %x", n, 8*size-taken, v)
				}
				expectErr(t, "too few", r, api.ErrShort)
			}
		}
	}
}

// P4.2: numbers, from every place in a byte, with something behind them.
func TestReaderCode(t *testing.T) {
	for _, c := range []struct {
		row  string
		want uint64
	}{
		{"1", 0},
		{"010", 1},
		{"011", 2},
		{"00100", 3},
		{"00110", 4},
		{"00101", 5},
		{"00111", 6},
		{"0001000", 7},
		{strings.Repeat("0", 62) + strings.Repeat("1", 63), 1<<63 - 2},
		{strings.Repeat("0", 63) + "1" + strings.Repeat("0", 63), 1<<63 - 1},
		{strings.Repeat("0", 63) + "11" + strings.Repeat("0", 62), 1 << 63},
		// The form has room for numbers that no Writer writes.
		{strings.Repeat("0", 63) + "101" + strings.Repeat("0", 61), 1<<63 + 1},
		{strings.Repeat("0", 63) + strings.Repeat("1", 64), math.MaxUint64 - 1},
	} {
		for ahead := range 9 {
			all := strings.Repeat("1", ahead) + c.row + "11"
			s := packed(all)
			r := bits.NewReader(s)
			r.Bits(ahead)
			if v := r.Code(); v != c.want {
				t.Errorf("%s behind %d: %d, not %d", c.row, ahead, v, c.want)
			}
			expectLeft(t, c.row, r, 8*len(s)-ahead-len(c.row))
			if v := r.Bits(2); v != 3 || r.Done() != api.OK {
				t.Errorf("%s behind %d: then %d, done %d", c.row, ahead, v, r.Done())
			}
		}
	}
}

// P4.2: ErrForm, if 64 noughts stand there, whatever is behind them.
func TestReaderCodeForm(t *testing.T) {
	for ahead := range 9 {
		for _, behind := range []string{"", "1", "0", strings.Repeat("0", 70), strings.Repeat("1", 70), "1" + strings.Repeat("0", 64)} {
			row := strings.Repeat("1", ahead) + strings.Repeat("0", 64) + behind
			r := bits.NewReader(packed(row))
			r.Bits(ahead)
			if v := r.Code(); v != 0 {
				t.Errorf("%d, %s: %d", ahead, behind, v)
			}
			expectErr(t, "noughts", r, api.ErrForm)
		}
	}
}

// P4.2: ErrShort, if the bits end within a code: within its noughts, or within what is behind its 1.
func TestReaderCodeShort(t *testing.T) {
	for count := 1; count < 64; count++ {
		zeros := strings.Repeat("0", count)
		for _, row := range []string{zeros, zeros + "1", zeros + "1" + strings.Repeat("1", count-1)} {
			// With so many bits ahead the row ends where the bytes end.
			ahead := (8 - len(row)%8) % 8
			r := bits.NewReader(packed(strings.Repeat("1", ahead) + row))
			r.Bits(ahead)
			if v := r.Code(); v != 0 {
				t.Errorf("%s: %d", row, v)
			}
			expectErr(t, row, r, api.ErrShort)
		}
	}
}

// P4.2: a reader of no bytes.
func TestReaderEmpty(t *testing.T) {
	r := bits.NewReader("")
	if r == nil || r.Done() != api.OK || r.Bits(0) != 0 || r.Done() != api.OK {
		t.Error(r.Done())
	}
	expectLeft(t, "empty", r, 0)
	if v := r.Bits(1); v != 0 {
		t.Error(v)
	}
	expectErr(t, "Bits", r, api.ErrShort)
	r = bits.NewReader("")
	if v := r.Code(); v != 0 {
		t.Error(v)
	}
	expectErr(t, "Code", r, api.ErrShort)
}

// P4.2: Err tells what was wrong first.
func TestReaderFirstError(t *testing.T) {
	r := bits.NewReader(noughts(9))
	r.Bits(65)
	r.Code()
	expectErr(t, "Bits(65) first", r, api.ErrArg)
	r = bits.NewReader(noughts(9))
	r.Code()
	r.Bits(-1)
	expectErr(t, "Code first", r, api.ErrForm)
	r = bits.NewReader("\x01")
	r.Bits(9)
	r.Bits(-1)
	expectErr(t, "Bits(9) first", r, api.ErrShort)
}

// P4.2: Done, of all bytes and every place in them.
func TestReaderDone(t *testing.T) {
	for b := range 256 {
		for taken := range 9 {
			r := bits.NewReader(string([]byte{byte(b)}))
			r.Bits(taken)
			want := api.OK
			if taken == 0 || b>>taken != 0 {
				want = api.ErrForm
			}
			if r.Done() != want || r.Done() != want {
				t.Errorf("%x, %d taken: %d, not %d", b, taken, r.Done(), want)
			}
			expectLeft(t, "asked", r, 8-taken)
		}
	}
	for taken, want := range map[int]api.Errno{0: api.ErrForm, 7: api.ErrForm, 8: api.ErrForm, 9: api.OK, 15: api.OK, 16: api.OK} {
		r := bits.NewReader(noughts(2))
		r.Bits(taken)
		if r.Done() != want {
			t.Errorf("%d taken: %d, not %d", taken, r.Done(), want)
		}
	}
	for _, size := range []int{1, 2, 8, 9, 100} {
		if r := bits.NewReader(noughts(size)); r.Done() != api.ErrForm {
			t.Errorf("%d bytes: %d", size, r.Done())
		}
	}
}

// P4.2: what Done tells isn't kept; one may read on.
func TestReaderDoneIsNotKept(t *testing.T) {
	r := bits.NewReader("\x05")
	if r.Done() != api.ErrForm || r.Bits(1) != 1 || r.Done() != api.ErrForm || r.Bits(2) != 2 || r.Done() != api.OK {
		t.Error(r.Err(), r.Left())
	}
	if r.Bits(5) != 0 || r.Done() != api.OK {
		t.Error(r.Done())
	}
}

// P4.2: what was wrong goes ahead of what is left.
func TestReaderDoneAfterError(t *testing.T) {
	r := bits.NewReader("\xff\xff")
	r.Bits(-1)
	if r.Done() != api.ErrArg {
		t.Error(r.Done())
	}
}

// P4.2: of a nil Reader 0, ErrNil.
func TestReaderNil(t *testing.T) {
	var r *bits.Reader
	if r.Left() != 0 {
		t.Error(r.Left())
	}
	expectErr(t, "nil", r, api.ErrNil)
}

// The zero value of a Reader has no bits.
func TestReaderZero(t *testing.T) {
	var r bits.Reader
	if r.Done() != api.OK || r.Left() != 0 || r.Bits(1) != 0 || r.Err() != api.ErrShort {
		t.Error(r.Done(), r.Left(), r.Err())
	}
}

// A copied Reader is another one.
func TestReaderCopied(t *testing.T) {
	a := bits.NewReader("\x0c\xa5")
	b := *a
	if a.Code() != 4 || b.Bits(8) != 0x0c || b.Bits(9) != 0 || a.Err() != api.OK || a.Left() != 11 {
		t.Error(a.Err(), a.Left(), b.Err())
	}
}
