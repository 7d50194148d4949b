package bits_test

import (
	"math"
	"strconv"
	"strings"
	"testing"

	"signpost/bits"
)

// packed is a row of 0 and 1 as the bytes that should be made of it.
func packed(row string) string {
	list := make([]byte, (len(row)+7)/8)
	for i := range len(row) {
		list[i/8] += (row[i] - '0') << (i % 8)
	}
	return string(list)
}

// lowest are the n lowest bits of v as a row of 0 and 1, the lowest first.
func lowest(v uint64, n int) string {
	digits := strings.Repeat("0", 64) + strconv.FormatUint(v, 2)
	var row []byte
	for i := range n {
		row = append(row, digits[len(digits)-1-i])
	}
	return string(row)
}

// codeRow is the code of v as a row of 0 and 1.
func codeRow(v uint64) string {
	noughts := len(strconv.FormatUint(v+1, 2)) - 1
	return strings.Repeat("0", noughts) + "1" + lowest(v+1, noughts)
}

// expectRow holds a Writer against the bits that it should have.
func expectRow(t *testing.T, what string, w *bits.Writer, row string) {
	t.Helper()
	if w.Len() != len(row) || w.String() != packed(row) {
		t.Errorf("%s: %d bits, %x; not %d bits, %x", what, w.Len(), w.String(), len(row), packed(row))
	}
}

// P4.1: bits as bytes, the first one the lowest of the first byte, noughts behind.
func TestWriterBits(t *testing.T) {
	const mixed = 0xfedcba9876543210
	for _, c := range []struct {
		v    uint64
		n    int
		len  int
		want string
	}{
		{0, 0, 0, ""},
		{math.MaxUint64, 0, 0, ""},
		{0, 1, 1, "\x00"},
		{1, 1, 1, "\x01"},
		{math.MaxUint64, 1, 1, "\x01"},
		{math.MaxUint64 - 1, 1, 1, "\x00"},
		{0b101, 3, 3, "\x05"},
		{0b1101, 3, 3, "\x05"},
		{0xff, 7, 7, "\x7f"},
		{0x1a5, 8, 8, "\xa5"},
		{0x3a5, 9, 9, "\xa5\x01"},
		{mixed, 12, 12, "\x10\x02"},
		{mixed, 63, 63, "\x10\x32\x54\x76\x98\xba\xdc\x7e"},
		{mixed, 64, 64, "\x10\x32\x54\x76\x98\xba\xdc\xfe"},
		{1 << 63, 63, 63, "\x00\x00\x00\x00\x00\x00\x00\x00"},
		{1 << 63, 64, 64, "\x00\x00\x00\x00\x00\x00\x00\x80"},
		{math.MaxUint64, 64, 64, "\xff\xff\xff\xff\xff\xff\xff\xff"},
		// n below 0 as 0, above 64 as 64.
		{mixed, -1, 0, ""},
		{mixed, -64, 0, ""},
		{mixed, math.MinInt, 0, ""},
		{mixed, 65, 64, "\x10\x32\x54\x76\x98\xba\xdc\xfe"},
		{mixed, 128, 64, "\x10\x32\x54\x76\x98\xba\xdc\xfe"},
		{mixed, math.MaxInt, 64, "\x10\x32\x54\x76\x98\xba\xdc\xfe"},
	} {
		var w bits.Writer
		w.Bits(c.v, c.n)
		if w.Len() != c.len || w.String() != c.want {
			t.Errorf("%x, %d: %d bits, %x; not %d bits, %x", c.v, c.n, w.Len(), w.String(), c.len, c.want)
		}
	}
}

// P4.1: the examples, and the least and the greatest numbers.
func TestWriterCode(t *testing.T) {
	for _, c := range []struct {
		v   uint64
		row string
	}{
		{0, "1"},
		{1, "010"},
		{2, "011"},
		{3, "00100"},
		{4, "00110"},
		{5, "00101"},
		{6, "00111"},
		{7, "0001000"},
		{254, "0000000" + "1" + "1111111"},
		{255, "00000000" + "1" + "00000000"},
		{1<<63 - 2, strings.Repeat("0", 62) + strings.Repeat("1", 63)},
		{1<<63 - 1, strings.Repeat("0", 63) + "1" + strings.Repeat("0", 63)},
		{1 << 63, strings.Repeat("0", 63) + "11" + strings.Repeat("0", 62)},
		// Above 2^63 the code of 2^63.
		{1<<63 + 1, codeRow(1 << 63)},
		{1<<63 + 1<<62, codeRow(1 << 63)},
		{math.MaxUint64 - 1, codeRow(1 << 63)},
		{math.MaxUint64, codeRow(1 << 63)},
	} {
		var w bits.Writer
		w.Code(c.v)
		expectRow(t, strconv.FormatUint(c.v, 10), &w, c.row)
	}
}

// P4.1, of all small numbers, and of those near a power of two.
func TestWriterCodeOfMany(t *testing.T) {
	for _, v := range numbers() {
		var w bits.Writer
		w.Code(v)
		expectRow(t, strconv.FormatUint(v, 10), &w, codeRow(v))
	}
}

// P4.1: the zero value is an empty one.
func TestWriterEmpty(t *testing.T) {
	var w bits.Writer
	expectRow(t, "new", &w, "")
	w.Bits(1, 0)
	w.Bits(1, -1)
	expectRow(t, "no bits", &w, "")
}

// P4.1: what is asked changes nothing.
func TestWriterPutsBehind(t *testing.T) {
	var w bits.Writer
	row := ""
	for _, c := range []struct {
		v uint64
		n int
	}{{1, 1}, {0, 2}, {0b10110, 5}, {0xff, 8}, {0, 7}, {1, 1}, {0xabcdef, 24}, {7, 3}} {
		w.Bits(c.v, c.n)
		row += lowest(c.v, c.n)
		expectRow(t, "Bits", &w, row)
		expectRow(t, "asked again", &w, row)
	}
	w.Code(4)
	w.Code(0)
	w.Bits(0, 1)
	w.Code(1)
	expectRow(t, "Code", &w, row+"00110"+"1"+"0"+"010")
}

// P4.1, at every length: ends within a byte, at a byte's end, and where much is laid away.
func TestWriterLengths(t *testing.T) {
	var w bits.Writer
	var row strings.Builder
	for i := range 2600 {
		expectRow(t, strconv.Itoa(i), &w, row.String())
		bit := uint64(i*i*i>>3) & 1
		w.Bits(bit, 1)
		row.WriteByte('0' + byte(bit))
	}
}

// P4.1, of many bits of all widths.
func TestWriterMuch(t *testing.T) {
	var w bits.Writer
	var row strings.Builder
	v := uint64(1)
	for i := range 60_000 {
		v = v*6364136223846793005 + 1442695040888963407
		n := int(v>>40) % 68
		w.Bits(v, n)
		row.WriteString(lowest(v, min(n, 64)))
		w.Code(v >> n)
		row.WriteString(codeRow(min(v>>n, 1<<63)))
		if i%20_000 == 0 {
			expectRow(t, strconv.Itoa(i), &w, row.String())
		}
	}
	if w.Len() != row.Len() || w.String() != packed(row.String()) {
		t.Error("other bits")
	}
}

// A copied Writer is another one: neither sees what the other one is told.
func TestWriterCopied(t *testing.T) {
	for n := range 1100 {
		var a bits.Writer
		for range n {
			a.Bits(1, 1)
		}
		begin := strings.Repeat("1", n)
		b := a
		a.Bits(0b01, 2)
		b.Bits(0b10, 2)
		c := b
		b = a
		b.Bits(0b11, 2)
		c.Bits(0b01, 10)
		expectRow(t, "a", &a, begin+"10")
		expectRow(t, "b", &b, begin+"1011")
		expectRow(t, "c", &c, begin+"01"+"1000000000")
	}
}

// P4.2: of a nil Writer nothing, 0, empty.
func TestWriterNil(t *testing.T) {
	var w *bits.Writer
	for _, n := range []int{-1, 0, 1, 64, 65} {
		w.Bits(math.MaxUint64, n)
	}
	w.Code(0)
	w.Code(math.MaxUint64)
	if w.Len() != 0 || w.String() != "" {
		t.Errorf("%d %x", w.Len(), w.String())
	}
}
