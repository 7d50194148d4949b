package bits_test

import (
	"math"
	"math/big"
	"slices"
	"strings"
	"testing"

	"signpost/api"
	"signpost/bits"
)

// numbers are small ones, and all near a power of two, up to the greatest that has a code.
func numbers() []uint64 {
	list := []uint64{0x0123456789abcdef, 0x7edcba9876543210, 0x5555555555555555}
	for v := range uint64(1100) {
		list = append(list, v)
	}
	for k := range 64 {
		for d := range uint64(5) {
			list = append(list, uint64(1)<<k+d-2)
		}
	}
	slices.Sort(list)
	list = slices.Compact(list)
	return slices.DeleteFunc(list, func(v uint64) bool { return v > 1<<63 })
}

// P4.3: of bits, from every place in a byte.
func TestBitsComeBack(t *testing.T) {
	for _, v := range append(numbers(), math.MaxUint64, math.MaxUint64-1, 0xfedcba9876543210) {
		for n := range 65 {
			ahead := int(v^uint64(n)) & 15
			var w bits.Writer
			w.Bits(math.MaxUint64, ahead)
			w.Bits(v, n)
			r := bits.NewReader(w.String())
			if r.Bits(ahead) != 1<<ahead-1 {
				t.Fatalf("%d ahead are others", ahead)
			}
			// What v has above its n lowest bits isn't written.
			if got, want := r.Bits(n), v&(1<<n-1); got != want || r.Done() != api.OK {
				t.Errorf("%x, %d: %x, not %x; done %d", v, n, got, want, r.Done())
			}
		}
	}
}

// P4.3: of codes, each alone and each behind the other.
func TestCodesComeBack(t *testing.T) {
	list := numbers()
	var all bits.Writer
	for _, v := range list {
		var w bits.Writer
		w.Code(v)
		r := bits.NewReader(w.String())
		if got := r.Code(); got != v || r.Done() != api.OK {
			t.Errorf("%d: %d, done %d", v, got, r.Done())
		}
		all.Code(v)
	}
	r := bits.NewReader(all.String())
	for _, v := range list {
		if got := r.Code(); got != v {
			t.Fatalf("%d: %d, error %d", v, got, r.Err())
		}
	}
	if r.Done() != api.OK {
		t.Error(r.Done())
	}
}

// P4.3: a number above 2^63 is read as 2^63, and one bit too many as 64 bits.
func TestWhatIsCutComesBackCut(t *testing.T) {
	for _, v := range []uint64{1<<63 + 1, math.MaxUint64} {
		var w bits.Writer
		w.Code(v)
		w.Bits(v, 65)
		w.Bits(v, -1)
		w.Bits(1, 1)
		r := bits.NewReader(w.String())
		if r.Code() != 1<<63 || r.Bits(64) != v || r.Bits(1) != 1 || r.Done() != api.OK {
			t.Errorf("%x: done %d", v, r.Done())
		}
	}
}

// P4.3, of bits and codes one behind the other, by the thousands.
func TestAllComesBack(t *testing.T) {
	list := numbers()
	var w bits.Writer
	for i, v := range list {
		w.Bits(v, i%65)
		w.Code(v)
		w.Bits(^v, 64)
	}
	r := bits.NewReader(w.String())
	if r.Left() != (w.Len()+7)/8*8 {
		t.Errorf("left %d of %d", r.Left(), w.Len())
	}
	for i, v := range list {
		if r.Bits(i%65) != v&(1<<(i%65)-1) || r.Code() != v || r.Bits(64) != ^v {
			t.Fatalf("%x: error %d, left %d", v, r.Err(), r.Left())
		}
	}
	if r.Done() != api.OK {
		t.Error(r.Done())
	}
}

// rowOf are the bits of bytes as a row of 0 and 1.
func rowOf(s string) string {
	var row strings.Builder
	for i := range len(s) {
		row.WriteString(lowest(uint64(s[i]), 8))
	}
	return row.String()
}

// valueOf is the number whose bits are a row of 0 and 1, the lowest first.
func valueOf(row string) *big.Int {
	v := new(big.Int)
	for i := range len(row) {
		if row[i] == '1' {
			v.SetBit(v, i, 1)
		}
	}
	return v
}

// judgedCode is the number at the front of a row, and what is left of it, as the document has it.
func judgedCode(row string) (v uint64, left string, err api.Errno) {
	count := len(row) - len(strings.TrimLeft(row, "0"))
	switch {
	case count >= 64:
		return 0, "", api.ErrForm
	case len(row) < 2*count+1:
		return 0, "", api.ErrShort
	}
	behind := valueOf(row[count+1 : 2*count+1])
	behind.SetBit(behind, count, 1)
	return behind.Uint64() - 1, row[2*count+1:], api.OK
}

// judgedBits are the first n bits of a row, and what is left of it.
func judgedBits(row string, n int) (v uint64, left string, err api.Errno) {
	switch {
	case n < 0 || n > 64:
		return 0, "", api.ErrArg
	case n > len(row):
		return 0, "", api.ErrShort
	}
	return valueOf(row[:n]).Uint64(), row[n:], api.OK
}

// judgedDone is what Done should tell of what is left.
func judgedDone(row string) api.Errno {
	if len(row) >= 8 || strings.Contains(row, "1") {
		return api.ErrForm
	}
	return api.OK
}

// holdReader holds a Reader of s against rows of 0 and 1: each of calls asks for so many bits, or, if it is 100 to 199, for a code.
func holdReader(t *testing.T, s, calls string) {
	t.Helper()
	r := bits.NewReader(s)
	row := rowOf(s)
	for i := range len(calls) {
		if r.Left() != len(row) || r.Done() != judgedDone(row) {
			t.Fatalf("%x, call %d: left %d, done %d; not left %d, done %d", s, i, r.Left(), r.Done(), len(row), judgedDone(row))
		}
		var got, want uint64
		var err api.Errno
		if c := int(calls[i]); c >= 100 && c < 200 {
			got = r.Code()
			want, row, err = judgedCode(row)
		} else {
			got = r.Bits(int(int8(c)))
			want, row, err = judgedBits(row, int(int8(c)))
		}
		if got != want || r.Err() != err {
			t.Fatalf("%x, call %d: %d, error %d; not %d, error %d", s, i, got, r.Err(), want, err)
		}
		if err != api.OK {
			expectErr(t, "held", r, err)
			return
		}
	}
}

// P4.2, of many bytes and calls.
func TestReaderOfAnyBytes(t *testing.T) {
	seed := uint64(7)
	next := func() byte {
		seed = seed*6364136223846793005 + 1442695040888963407
		return byte(seed >> 56)
	}
	for i := range 20_000 {
		s := make([]byte, i%40)
		for j := range s {
			// Few bits that are 1, so that long codes are met.
			s[j] = next()
			for range i % 6 {
				s[j] &= next()
			}
		}
		calls := make([]byte, 30)
		for j := range calls {
			calls[j] = next() % 30
			if next()%2 == 0 {
				calls[j] = 100
			}
		}
		calls[10+i%20] = next()
		holdReader(t, string(s), string(calls))
	}
}

func FuzzReader(f *testing.F) {
	f.Add("", "\x00\x01")
	f.Add("\x0c", "dd")
	f.Add(noughts(8)+"\x01", "\x01d")
	f.Fuzz(holdReader)
}
