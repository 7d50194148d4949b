package varint_test

import (
	"encoding/binary"
	"math"
	"strings"
	"testing"

	"signpost/api"
	"signpost/varint"
)

// expect holds a Reader against what should be wrong with it, and left in it.
func expect(t *testing.T, what string, r *varint.Reader, err api.Errno, left int) {
	t.Helper()
	if r.Err() != err || r.Left() != left {
		t.Errorf("%q: error %d, left %d; not error %d, left %d", what, r.Err(), r.Left(), err, left)
	}
}

// expectStopped holds that every call answers zero, takes nothing, and keeps what was wrong first.
func expectStopped(t *testing.T, what string, r *varint.Reader) {
	t.Helper()
	err, left := r.Err(), r.Left()
	for range 2 {
		if b := r.Byte(); b != 0 {
			t.Errorf("%q: Byte %d", what, b)
		}
		if n := r.Uint(); n != 0 {
			t.Errorf("%q: Uint %d", what, n)
		}
		if n := r.Int(); n != 0 {
			t.Errorf("%q: Int %d", what, n)
		}
		for _, n := range []int{-1, 0, 1, 100} {
			if s := r.Text(n); s != "" {
				t.Errorf("%q: Text %q", what, s)
			}
			if s := r.Raw(n); s != "" {
				t.Errorf("%q: Raw %q", what, s)
			}
		}
		expect(t, what, r, err, left)
		if r.Done() != err {
			t.Errorf("%q: Done %d, not %d", what, r.Done(), err)
		}
	}
}

// P1.1
func TestReaderTakesFromTheFront(t *testing.T) {
	r := varint.NewReader("\x00\xff\xac\x02\x01\x02ab\x00\x80c")
	expect(t, "new", r, api.OK, 11)
	if a, b := r.Byte(), r.Byte(); a != 0 || b != 0xff {
		t.Error(a, b)
	}
	expect(t, "bytes", r, api.OK, 9)
	if n := r.Uint(); n != 300 {
		t.Error(n)
	}
	expect(t, "number", r, api.OK, 7)
	if n := r.Int(); n != -1 {
		t.Error(n)
	}
	expect(t, "below 0", r, api.OK, 6)
	if s := r.Text(2); s != "ab" {
		t.Errorf("%q", s)
	}
	if s := r.Text(0); s != "" {
		t.Errorf("%q", s)
	}
	expect(t, "texts", r, api.OK, 2)
	if s := r.Raw(0); s != "" {
		t.Errorf("%q", s)
	}
	if s := r.Raw(2); s != "\x80c" {
		t.Errorf("%q", s)
	}
	expect(t, "all", r, api.OK, 0)
	if s := r.Raw(0); s != "" || r.Done() != api.OK {
		t.Errorf("%q %d", s, r.Done())
	}
}

// P1.1: the bytes end too early.
func TestReaderShort(t *testing.T) {
	for _, c := range []struct {
		what, in string
		read     func(r *varint.Reader) bool
		left     int
	}{
		{"Byte of nothing", "", func(r *varint.Reader) bool { return r.Byte() == 0 }, 0},
		{"Uint of nothing", "", func(r *varint.Reader) bool { return r.Uint() == 0 }, 0},
		{"Uint goes on", "\xff", func(r *varint.Reader) bool { return r.Uint() == 0 }, 0},
		{"Uint of nine goes on", strings.Repeat("\xff", 9), func(r *varint.Reader) bool { return r.Uint() == 0 }, 0},
		{"Int of nothing", "", func(r *varint.Reader) bool { return r.Int() == 0 }, 0},
		{"Int goes on", "\x81", func(r *varint.Reader) bool { return r.Int() == 0 }, 0},
		{"Text of nothing", "", func(r *varint.Reader) bool { return r.Text(9) == "" }, 0},
		{"Text of nothing, most below 0", "", func(r *varint.Reader) bool { return r.Text(-1) == "" }, 0},
		{"Text's length goes on", "\x82", func(r *varint.Reader) bool { return r.Text(9) == "" }, 0},
		{"Text without bytes", "\x01", func(r *varint.Reader) bool { return r.Text(9) == "" }, 0},
		{"Text, one too few", "\x03ab", func(r *varint.Reader) bool { return r.Text(3) == "" }, 2},
		{"Text of far too few", "\xff\xff\xff\xff\xff\xff\xff\xff\x7fab", func(r *varint.Reader) bool { return r.Text(math.MaxInt) == "" }, 2},
		{"Raw of nothing", "", func(r *varint.Reader) bool { return r.Raw(1) == "" }, 0},
		{"Raw, one too few", "ab", func(r *varint.Reader) bool { return r.Raw(3) == "" }, 2},
		{"Raw of far too few", "ab", func(r *varint.Reader) bool { return r.Raw(math.MaxInt) == "" }, 2},
	} {
		r := varint.NewReader(c.in)
		if !c.read(r) {
			t.Errorf("%s: it answers something", c.what)
		}
		expect(t, c.what, r, api.ErrShort, c.left)
		expectStopped(t, c.what, r)
	}
}

// P1.1: a number with more bytes than it must have, or that doesn't fit in 64 bits.
func TestReaderForm(t *testing.T) {
	eight0, nine0, nine1 := strings.Repeat("\x80", 8), strings.Repeat("\x80", 9), strings.Repeat("\xff", 9)
	for _, c := range []struct {
		number string
		behind string
	}{
		{"\x80\x00", "ab"},
		{"\xff\x00", "ab"},
		{"\xac\x82\x00", "ab"},
		{eight0 + "\x00", "ab"},
		{nine0 + "\x00", "ab"},
		{nine1 + "\x00", ""},
		{nine0 + "\x02", "ab"},
		{nine1 + "\x02", ""},
		{nine1 + "\x7f", "ab"},
		{nine0 + "\x80", "\x00ab"},
		{nine0 + "\x80", ""},
		{nine1 + "\x81", "\x00"},
		{nine1 + "\xff", "\xff\xff\xff"},
	} {
		in := c.number + c.behind
		for what, read := range map[string]func(r *varint.Reader) bool{
			"Uint": func(r *varint.Reader) bool { return r.Uint() == 0 },
			"Int":  func(r *varint.Reader) bool { return r.Int() == 0 },
			"Text": func(r *varint.Reader) bool { return r.Text(math.MaxInt) == "" },
		} {
			r := varint.NewReader(in)
			if !read(r) {
				t.Errorf("%s of %x: it answers something", what, in)
			}
			expect(t, what, r, api.ErrForm, len(c.behind))
			expectStopped(t, what, r)
		}
	}
}

// P1.1: the length of a text, and the most that it may be.
func TestReaderTextMost(t *testing.T) {
	for _, c := range []struct {
		in   string
		most int
		want string
		err  api.Errno
		left int
	}{
		{"\x00x", 0, "", api.OK, 1},
		{"\x01ab", 0, "", api.ErrBig, 2},
		{"\x02abc", 2, "ab", api.OK, 1},
		{"\x03abc", 2, "", api.ErrBig, 3},
		{"\x03abc", math.MaxInt, "abc", api.OK, 0},
		{"\x00ab", -1, "", api.ErrBig, 2},
		{"\x01ab", math.MinInt, "", api.ErrBig, 2},
		// Both too long and too short: its length is looked at ahead of its bytes.
		{"\x05ab", 4, "", api.ErrBig, 2},
		{"\x80\x80\x80\x80\x80\x80\x80\x80\x80\x01ab", math.MaxInt, "", api.ErrBig, 2},
		{"\xff\xff\xff\xff\xff\xff\xff\xff\xff\x01ab", -1, "", api.ErrBig, 2},
	} {
		r := varint.NewReader(c.in)
		if got := r.Text(c.most); got != c.want {
			t.Errorf("%x, %d: %q, not %q", c.in, c.most, got, c.want)
		}
		expect(t, c.in, r, c.err, c.left)
		if c.err != api.OK {
			expectStopped(t, c.in, r)
		}
	}
	long := strings.Repeat("y", 128)
	for most, err := range map[int]api.Errno{127: api.ErrBig, 128: api.OK, 129: api.OK} {
		r := varint.NewReader(textBytes(long))
		if s := r.Text(most); r.Err() != err || (s == long) != (err == api.OK) {
			t.Errorf("%d: %q %d", most, s, r.Err())
		}
	}
}

// P1.1: n below 0.
func TestReaderRawBelow0(t *testing.T) {
	for _, n := range []int{-1, -2, math.MinInt} {
		for _, in := range []string{"", "ab"} {
			r := varint.NewReader(in)
			if s := r.Raw(n); s != "" {
				t.Errorf("%d: %q", n, s)
			}
			expect(t, "Raw", r, api.ErrArg, len(in))
			expectStopped(t, "Raw", r)
		}
	}
}

// P1.2: Err tells what was wrong first, whatever is wrong behind it.
func TestReaderFirstError(t *testing.T) {
	r := varint.NewReader("\x80\x00\x05")
	r.Raw(4)
	expect(t, "Raw", r, api.ErrShort, 3)
	r.Uint()
	r.Raw(-1)
	r.Text(1)
	expect(t, "behind it", r, api.ErrShort, 3)
}

// P1.2: bytes that are left are told by Done, but aren't kept as something wrong.
func TestReaderDone(t *testing.T) {
	r := varint.NewReader("ab")
	if r.Done() != api.ErrForm || r.Done() != api.ErrForm {
		t.Error(r.Done())
	}
	expect(t, "asked", r, api.OK, 2)
	if b := r.Byte(); b != 'a' || r.Done() != api.ErrForm {
		t.Error(b, r.Done())
	}
	if b := r.Byte(); b != 'b' || r.Done() != api.OK {
		t.Error(b, r.Done())
	}
	if r.Byte(); r.Done() != api.ErrShort {
		t.Error(r.Done())
	}
	if r = varint.NewReader(""); r.Done() != api.OK {
		t.Error(r.Done())
	}
	// What was wrong goes ahead of what is left.
	if r = varint.NewReader("ab"); r.Raw(-1) != "" || r.Done() != api.ErrArg {
		t.Error(r.Done())
	}
}

// P1.2
func TestReaderNil(t *testing.T) {
	var r *varint.Reader
	expect(t, "nil", r, api.ErrNil, 0)
	expectStopped(t, "nil", r)
}

// The zero value of a Reader has no bytes.
func TestReaderZero(t *testing.T) {
	var r varint.Reader
	if r.Done() != api.OK || r.Left() != 0 || r.Byte() != 0 || r.Err() != api.ErrShort {
		t.Error(r.Done(), r.Left(), r.Err())
	}
}

// judged is what a number at the front of s is, by the library's reading of it.
func judged(s string) (n uint64, taken int, err api.Errno) {
	n, taken = binary.Uvarint([]byte(s))
	switch {
	case taken == 0 && len(s) >= 10:
		return 0, 10, api.ErrForm
	case taken == 0:
		return 0, len(s), api.ErrShort
	case taken < 0:
		return 0, 10, api.ErrForm
	case taken > 1 && s[taken-1] == 0:
		return 0, taken, api.ErrForm
	}
	return n, taken, api.OK
}

// holdUint holds Uint of s against the library.
func holdUint(t *testing.T, s string) {
	t.Helper()
	n, taken, err := judged(s)
	r := varint.NewReader(s)
	if got := r.Uint(); got != n || r.Err() != err || r.Left() != len(s)-taken {
		t.Errorf("%x: %d, error %d, left %d; not %d, error %d, left %d", s, got, r.Err(), r.Left(), n, err, len(s)-taken)
	}
}

// P1.1, of all short rows of bytes that matter, alone and behind many that go on.
func TestReaderUintOfAnyBytes(t *testing.T) {
	rows := []string{""}
	for range 5 {
		var longer []string
		for _, row := range rows {
			for _, ahead := range []int{0, 6, 7, 8, 9} {
				holdUint(t, strings.Repeat("\x80", ahead)+row)
				holdUint(t, strings.Repeat("\xff", ahead)+row)
			}
			for _, b := range []string{"\x00", "\x01", "\x02", "\x7f", "\x80", "\x81", "\xff"} {
				longer = append(longer, row+b)
			}
		}
		rows = longer
	}
}

func FuzzReaderUint(f *testing.F) {
	f.Add("")
	f.Add("\xac\x02")
	f.Add("\xff\xff\xff\xff\xff\xff\xff\xff\xff\x01")
	f.Fuzz(func(t *testing.T, s string) { holdUint(t, s) })
}
