package varint_test

import (
	"math"
	"strings"
	"testing"

	"signpost/api"
	"signpost/varint"
)

// numbers are small ones, and all near a power of two.
func numbers() []uint64 {
	seen := map[uint64]bool{}
	for n := range uint64(300) {
		seen[n] = true
	}
	for k := range 64 {
		for d := range uint64(5) {
			seen[uint64(1)<<k+d-2] = true
		}
	}
	var list []uint64
	for n := range seen {
		list = append(list, n)
	}
	return append(list, 0x0123456789abcdef, 0xfedcba9876543210)
}

// P1.3: what is written is read as it was, with something behind it too.
func TestNumbersComeBack(t *testing.T) {
	for _, n := range numbers() {
		r := varint.NewReader(uintBytes(n))
		if got := r.Uint(); got != n || r.Done() != api.OK {
			t.Errorf("%d: %d %d", n, got, r.Done())
		}
		r = varint.NewReader(intBytes(int(n)) + "\x80z")
		if got := r.Int(); got != int(n) || r.Err() != api.OK || r.Left() != 2 {
			t.Errorf("%d: %d %d", int(n), got, r.Err())
		}
	}
}

// P1.3
func TestTextsComeBack(t *testing.T) {
	for _, n := range []int{0, 1, 2, 63, 64, 65, 127, 128, 129, 4096, 16383, 16384, 300_000} {
		s := strings.Repeat("\xff\x00z", n)[:n]
		r := varint.NewReader(textBytes(s) + s)
		if r.Text(n) != s || r.Raw(n) != s || r.Done() != api.OK {
			t.Errorf("%d: %d", n, r.Done())
		}
	}
}

// P1.3, of all kinds one behind the other.
func TestAllComesBack(t *testing.T) {
	list := numbers()
	var w varint.Writer
	for _, n := range list {
		w.Uint(n)
		w.Byte(byte(n))
		w.Int(int(n))
		w.Text(uintBytes(n))
		w.Raw(intBytes(int(n)))
	}
	r := varint.NewReader(w.String())
	for _, n := range list {
		raw := intBytes(int(n))
		if r.Uint() != n || r.Byte() != byte(n) || r.Int() != int(n) || r.Text(10) != uintBytes(n) || r.Raw(len(raw)) != raw {
			t.Fatalf("%d: error %d, left %d", n, r.Err(), r.Left())
		}
	}
	if r.Done() != api.OK {
		t.Error(r.Done())
	}
}

// P1.3: unlike numbers have unlike bytes, none another one's beginning; and no number has more bytes than ten.
func TestNoNumberBeginsAnother(t *testing.T) {
	list := numbers()
	for _, write := range []func(n uint64) string{uintBytes, func(n uint64) string { return intBytes(int(n)) }} {
		bytesOf := make([]string, len(list))
		for i, n := range list {
			bytesOf[i] = write(n)
			if len(bytesOf[i]) > 10 || len(bytesOf[i]) == 0 {
				t.Errorf("%d: %x", n, bytesOf[i])
			}
		}
		for i, a := range bytesOf {
			for j, b := range bytesOf {
				if list[i] != list[j] && strings.HasPrefix(a, b) {
					t.Fatalf("%d begins with %d: %x %x", list[i], list[j], a, b)
				}
			}
		}
	}
}

// P1.3, the other way: of bytes that are read whole, none but they are written.
func TestBytesComeBack(t *testing.T) {
	for a := range 256 {
		for b := range 256 {
			for _, s := range []string{string([]byte{byte(a)}), string([]byte{byte(a), byte(b)}), string([]byte{byte(a), byte(b), 1})} {
				r := varint.NewReader(s)
				n := r.Uint()
				if r.Done() == api.OK && uintBytes(n) != s {
					t.Errorf("%x: %d is written %x", s, n, uintBytes(n))
				}
			}
		}
	}
}

// P1.3, of the least and the greatest numbers.
func TestEndsComeBack(t *testing.T) {
	for _, n := range []int{math.MinInt, math.MinInt + 1, -1, 0, 1, math.MaxInt - 1, math.MaxInt} {
		r := varint.NewReader(intBytes(n))
		if got := r.Int(); got != n || r.Done() != api.OK {
			t.Errorf("%d: %d %d", n, got, r.Done())
		}
	}
}
