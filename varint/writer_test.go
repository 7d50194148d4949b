package varint_test

import (
	"math"
	"strings"
	"testing"

	"signpost/varint"
)

// written is what a new Writer has behind some calls.
func written(calls func(w *varint.Writer)) string {
	var w varint.Writer
	calls(&w)
	return w.String()
}

func uintBytes(n uint64) string { return written(func(w *varint.Writer) { w.Uint(n) }) }
func intBytes(n int) string     { return written(func(w *varint.Writer) { w.Int(n) }) }
func textBytes(s string) string { return written(func(w *varint.Writer) { w.Text(s) }) }

// P1.1
func TestWriterUint(t *testing.T) {
	ff := strings.Repeat("\xff", 8)
	for _, c := range []struct {
		n    uint64
		want string
	}{
		{0, "\x00"},
		{1, "\x01"},
		{127, "\x7f"},
		{128, "\x80\x01"},
		{300, "\xac\x02"},
		{1<<14 - 1, "\xff\x7f"},
		{1 << 14, "\x80\x80\x01"},
		{1<<63 - 1, ff + "\x7f"},
		{1 << 63, strings.Repeat("\x80", 9) + "\x01"},
		{math.MaxUint64, ff + "\xff\x01"},
	} {
		if got := uintBytes(c.n); got != c.want {
			t.Errorf("%d: %x, not %x", c.n, got, c.want)
		}
	}
}

// P1.1
func TestWriterInt(t *testing.T) {
	ff := strings.Repeat("\xff", 8)
	for _, c := range []struct {
		n    int
		want string
	}{
		{0, "\x00"},
		{-1, "\x01"},
		{1, "\x02"},
		{-2, "\x03"},
		{63, "\x7e"},
		{-64, "\x7f"},
		{64, "\x80\x01"},
		{-65, "\x81\x01"},
		{math.MaxInt, "\xfe" + ff + "\x01"},
		{math.MinInt, "\xff" + ff + "\x01"},
	} {
		if got := intBytes(c.n); got != c.want {
			t.Errorf("%d: %x, not %x", c.n, got, c.want)
		}
	}
}

// P1.1
func TestWriterText(t *testing.T) {
	for _, c := range []struct{ s, want string }{
		{"", "\x00"},
		{"ab", "\x02ab"},
		{"\x00\xff\x80", "\x03\x00\xff\x80"},
		{strings.Repeat("x", 127), "\x7f" + strings.Repeat("x", 127)},
		{strings.Repeat("x", 128), "\x80\x01" + strings.Repeat("x", 128)},
	} {
		if got := textBytes(c.s); got != c.want {
			t.Errorf("%q: %x, not %x", c.s, got, c.want)
		}
	}
}

// P1.1
func TestWriterPutsBehind(t *testing.T) {
	var w varint.Writer
	if w.String() != "" {
		t.Errorf("new: %x", w.String())
	}
	w.Byte(0)
	w.Byte(0xff)
	w.Uint(300)
	w.Int(-1)
	w.Text("ab")
	w.Raw("")
	w.Raw("\x80c")
	want := "\x00\xff\xac\x02\x01\x02ab\x80c"
	if w.String() != want || w.String() != want {
		t.Errorf("%x, not %x", w.String(), want)
	}
	w.Byte('!')
	if w.String() != want+"!" {
		t.Errorf("%x, not %x", w.String(), want+"!")
	}
}

// P1.1
func TestWriterEveryByte(t *testing.T) {
	for b := range 256 {
		got := written(func(w *varint.Writer) { w.Byte(byte(b)) })
		if got != string([]byte{byte(b)}) {
			t.Errorf("%d: %x", b, got)
		}
	}
}

// P1.1, of many short writes and of long ones between them.
func TestWriterMuch(t *testing.T) {
	var w varint.Writer
	var want []byte
	for i := range 300_000 {
		w.Byte(byte(i * 31 >> 3))
		want = append(want, byte(i*31>>3))
		if i%9973 == 0 {
			long := strings.Repeat(string(rune('a'+i%26)), i/7)
			w.Raw(long)
			want = append(want, long...)
		}
		if i%50_000 == 0 && w.String() != string(want) {
			t.Fatalf("other bytes behind %d", i)
		}
	}
	if w.String() != string(want) {
		t.Error("other bytes")
	}
}

// P1.1, at every length near those at which much is put together anew.
func TestWriterLengths(t *testing.T) {
	var w varint.Writer
	var want strings.Builder
	for i := range 9000 {
		if w.String() != want.String() {
			t.Fatalf("other bytes at %d", i)
		}
		w.Byte(byte(i))
		want.WriteByte(byte(i))
	}
}

// A copied Writer is another one: neither sees what the other one is told.
func TestWriterCopied(t *testing.T) {
	for n := range 200 {
		var a varint.Writer
		begin := strings.Repeat("x", n)
		for range n {
			a.Byte('x')
		}
		b := a
		a.Byte('a')
		b.Byte('b')
		c := b
		b = a
		b.Byte('d')
		c.Byte('c')
		if a.String() != begin+"a" || b.String() != begin+"ad" || c.String() != begin+"bc" {
			t.Fatalf("%d: %q %q %q", n, a.String(), b.String(), c.String())
		}
	}
}

// P1.2
func TestWriterNil(t *testing.T) {
	var w *varint.Writer
	w.Byte(1)
	w.Uint(300)
	w.Int(-1)
	w.Text("ab")
	w.Raw("ab")
	if w.String() != "" {
		t.Errorf("%x", w.String())
	}
}
