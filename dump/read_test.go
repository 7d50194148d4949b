package dump_test

import (
	"math"
	"strings"
	"testing"

	"signpost/api"
	"signpost/dump"
)

// ten: a first route, 10.0.0.0/8, of which the bytes are 08 0a.
func ten() row { return row{0, "\x08\x0a", 1, 0} }

// host: a first route of five bytes, 20 0a 01 02 03.
func host() row { return row{0, "\x20\x0a\x01\x02\x03", 1, 0} }

// P7.1: a dump that is cut off anywhere ends too early; so does one that tells of more routes than there are.
func TestReadOfWhatIsCutOff(t *testing.T) {
	edges := of(t, way(api.Prefix{}, 65534, math.MaxUint32), way(four(10, 1, 2, 3, 32), 300, 300), way(four(10, 1, 2, 4, 32), 0, 0), way(six("\x20\x01", 128), 1, 1<<28), way(six("\x20\x02", 16), 128, 127))
	for _, s := range []string{dump.Print(nil), rows(ten()), dump.Print(edges), dump.Print(of(t, many(300)...))} {
		if hold(t, s) != api.OK {
			t.Fatalf("%x isn't right", s)
		}
		for n := range len(s) {
			expectWrong(t, s[:n], api.ErrShort)
		}
	}
	expectWrong(t, "\x02"+ten().String(), api.ErrShort)
	expectWrong(t, "\x01", api.ErrShort)
	expectWrong(t, "\x80", api.ErrShort)
}

// P7.1: bytes behind the last route: the reader's Done.
func TestReadOfBytesBehind(t *testing.T) {
	for _, s := range []string{"\x00", rows(ten()), rows(host(), row{4, "\x04", 2, 2}), dump.Print(of(t, many(300)...))} {
		for _, behind := range []string{"\x00", "\x01", "\x80", "\xff", "\x00\x00", ten().String(), s} {
			expectWrong(t, s+behind, api.ErrForm)
		}
	}
}

// P7.1: more than 300 routes are told, whatever stands behind, if anything does.
func TestReadOfTooMany(t *testing.T) {
	for _, n := range []uint64{301, 302, 1000, 1 << 16, 1<<16 + 1, 1 << 31, 1 << 32, 1<<32 + 1, 1 << 63, math.MaxUint64} {
		for _, behind := range []string{"", "\x00", ten().String(), "\x80\x00", strings.Repeat(ten().String(), 400)} {
			expectWrong(t, number(n)+behind, api.ErrBig)
		}
	}
	s := number(301)
	for i := range 301 {
		s += row{0, string([]byte{24, 20, byte(i >> 8), byte(i)}), 1, 1}.String()
	}
	expectWrong(t, s, api.ErrBig)
	expectWrong(t, number(300), api.ErrShort)
}

// P7.1: more first bytes are told than the one ahead has; of the first route there is none ahead.
func TestReadOfTooManyFirstBytes(t *testing.T) {
	for _, told := range []uint64{1, 2, 17, 1 << 32, 1 << 63, math.MaxUint64} {
		expectWrong(t, rows(row{told, "\x08\x0a", 1, 0}), api.ErrForm)
		expectWrong(t, "\x01"+number(told), api.ErrForm)
	}
	for _, told := range []uint64{6, 7, 18, 255, 1 << 32, 1<<32 + 1, 1 << 63, math.MaxUint64} {
		expectWrong(t, rows(host(), row{told, "", 1, 0}), api.ErrForm)
		expectWrong(t, rows(host(), row{told, "\x20\x0b", 1, 0}), api.ErrForm)
		expectWrong(t, "\x02"+host().String()+number(told), api.ErrForm)
	}
	// It is the one just ahead that counts, not one farther ahead.
	expectWrong(t, rows(host(), row{0, "\x08\x0b", 1, 0}, row{3, "", 1, 0}), api.ErrForm)
}

// P7.1: not all first bytes are told that are in common: each number that is too small.
func TestReadOfTooFewFirstBytes(t *testing.T) {
	whole := "\x20\x0a\x01\x02\x04"
	for told := range 4 {
		expectWrong(t, rows(host(), row{uint64(told), whole[told:], 1, 0}), api.ErrForm)
	}
	if hold(t, rows(host(), row{4, whole[4:], 1, 0})) != api.OK {
		t.Error("all are told")
	}
	long := "\xc0" + strings.Repeat("\xab", 16)
	for told := range 16 {
		expectWrong(t, rows(row{0, long, 1, 0}, row{uint64(told), long[told:16] + "\xac", 1, 0}), api.ErrForm)
	}
	if hold(t, rows(row{0, long, 1, 0}, row{16, "\xac", 1, 0})) != api.OK {
		t.Error("all are told")
	}
}

// P7.1: the bytes are no prefix's: a first byte that is none, too few behind it, too many, or a bit that must be 0.
func TestReadOfNoPrefix(t *testing.T) {
	for _, text := range []string{
		"", "\x21\x0a\x00\x00\x00\x00", "\x3f", "\xc1", "\xff" + strings.Repeat("\x00", 16),
		"\x08", "\x09\x0a", "\x20\x0a\x01\x02", "\x48", "\xc0" + strings.Repeat("\x00", 15),
		"\x00\x00", "\x08\x0a\x00", "\x20\x0a\x01\x02\x03\x04", "\x40\x00", "\xb8" + strings.Repeat("\x00", 16),
		"\x07\x0b", "\x01\xc0", "\x09\x0a\x01", "\x41\x40", "\xbf" + strings.Repeat("\x00", 15) + "\x01",
	} {
		expectWrong(t, rows(row{0, text, 1, 0}), api.ErrForm)
		expectWrong(t, rows(row{0, "\x00", 1, 0}, row{0, text, 1, 0}), api.ErrForm)
	}
	// What makes none of it may be in common with the one ahead, too.
	expectWrong(t, rows(host(), row{4, "", 1, 0}), api.ErrForm)
	expectWrong(t, rows(host(), row{4, "\x04\x05", 1, 0}), api.ErrForm)
	expectWrong(t, rows(host(), row{5, "\x04", 1, 0}), api.ErrForm)
	expectWrong(t, rows(row{0, "\x07\x0a", 1, 0}, row{1, "\x0b", 1, 0}), api.ErrForm)
}

// P7.1: a text of more than 17 bytes, though they are there or not; one of 17 may be a prefix's.
func TestReadOfLongTexts(t *testing.T) {
	long := "\xc0" + strings.Repeat("\xab", 17)
	if hold(t, rows(row{0, long[:17], 1, 0})) != api.OK {
		t.Error("17 bytes may be")
	}
	expectWrong(t, rows(row{0, long, 1, 0}), api.ErrBig)
	expectWrong(t, rows(row{0, strings.Repeat("\x00", 1000), 1, 0}), api.ErrBig)
	for _, n := range []uint64{18, 19, 255, 1 << 16, 1 << 32, 1<<32 + 2, 1 << 63, math.MaxUint64} {
		for _, behind := range []string{"", "\x08\x0a\x01\x00", long} {
			expectWrong(t, "\x01\x00"+number(n)+behind, api.ErrBig)
		}
	}
	// With those of the one ahead it is the bytes that are too many, not the text's.
	expectWrong(t, rows(row{0, long[:17], 1, 0}, row{1, long[1:], 1, 0}), api.ErrForm)
	expectWrong(t, rows(row{0, long[:17], 1, 0}, row{17, long[:17], 1, 0}), api.ErrForm)
	expectWrong(t, rows(row{0, long[:17], 1, 0}, row{17, long, 1, 0}), api.ErrBig)
}

// P7.1: the same prefix twice, and prefixes out of order: by the kind, by the address, by the length.
func TestReadOfWhatIsOutOfOrder(t *testing.T) {
	for _, s := range []string{
		rows(ten(), row{2, "", 1, 0}),
		rows(ten(), row{2, "", 2, 9}),
		rows(row{0, "\x00", 1, 0}, row{1, "", 1, 0}),
		rows(row{0, "\x40", 1, 0}, row{1, "", 1, 0}),
		rows(ten(), row{1, "\x09", 1, 0}),
		rows(host(), row{4, "\x02", 1, 0}),
		rows(row{0, "\x08\x0a", 1, 0}, row{0, "\x07\x0a", 1, 0}),
		rows(row{0, "\x08\x0a", 1, 0}, row{0, "\x00", 1, 0}),
		rows(row{0, "\x08\x0a", 1, 0}, row{0, "\x10\x09\xff", 1, 0}),
		rows(row{0, "\x10\x0a\x01", 1, 0}, row{0, "\x08\x0a", 1, 0}),
		rows(row{0, "\x40", 1, 0}, row{0, "\x20\xff\xff\xff\xff", 1, 0}),
		rows(row{0, "\x48\x01", 1, 0}, row{0, "\x08\x02", 1, 0}),
		rows(ten(), row{1, "\x0b", 1, 0}, row{1, "\x0a", 1, 0}),
		rows(ten(), row{1, "\x0b", 1, 0}, row{2, "", 1, 0}),
	} {
		expectWrong(t, s, api.ErrOrder)
	}
}

// P7.1: Metric up to 65534, Seq up to 2^32 - 1.
func TestReadOfGreatNumbers(t *testing.T) {
	for _, metric := range []uint64{65535, 65536, 1 << 31, 1 << 32, 1<<32 + 1, 1 << 63, math.MaxUint64} {
		expectWrong(t, rows(row{0, "\x08\x0a", metric, 0}), api.ErrArg)
		expectWrong(t, rows(ten(), row{1, "\x0b", metric, 0}), api.ErrArg)
	}
	for _, seq := range []uint64{1 << 32, 1<<32 + 1, 1 << 33, 1 << 63, math.MaxUint64} {
		expectWrong(t, rows(row{0, "\x08\x0a", 1, seq}), api.ErrBig)
		expectWrong(t, rows(ten(), row{1, "\x0b", 1, seq}), api.ErrBig)
	}
	for _, metric := range []uint64{0, 1, 65533, 65534} {
		for _, seq := range []uint64{0, 1, 1<<31 - 1, 1 << 31, 1<<32 - 2, 1<<32 - 1} {
			x, err := dump.Read(rows(row{0, "\x08\x0a", metric, seq}))
			if want := way(four(10, 0, 0, 0, 8), int(metric), uint32(seq)); err != api.OK || x.Len() != 1 || x.All()[0] != want {
				t.Errorf("%v: %v, error %d", want, x, err)
			}
		}
	}
}

// P7.1: numbers that aren't in their shortest form, or don't fit in 64 bits, in the place of each number.
func TestReadOfNumbersThatAreNone(t *testing.T) {
	tooGreat := strings.Repeat("\xff", 9) + "\x02"
	endless := strings.Repeat("\x80", 20)
	for at, n := range []uint64{2, 0, 2, 1, 0, 1, 1, 1, 0} {
		for _, wrong := range []string{longer(n), longer(n)[:len(longer(n))-1] + "\x80\x00", tooGreat, endless} {
			part := func(i int, right string) string {
				if i == at {
					return wrong
				}
				return right
			}
			s := part(0, "\x02") + part(1, "\x00") + part(2, "\x02") + "\x08\x0a" + part(3, "\x01") + part(4, "\x00") +
				part(5, "\x01") + part(6, "\x01") + "\x0b" + part(7, "\x01") + part(8, "\x00")
			expectWrong(t, s, api.ErrForm)
		}
	}
}

// P7.1: of several errors in one route the first, in the order of its fields.
func TestReadOfSeveralErrorsInARoute(t *testing.T) {
	long := strings.Repeat("\x21", 18)
	for _, c := range []struct {
		s    string
		want api.Errno
	}{
		// Too many first bytes, ahead of a text that is too long, is none, or isn't there, and of all that is behind.
		{rows(row{1, long, 65535, 1 << 32}), api.ErrForm},
		{"\x01\x01\x12", api.ErrForm},
		{rows(ten(), row{3, "", 65535, 1 << 32}), api.ErrForm},
		// A text that is too long, ahead of bytes that are none, the order, Metric and Seq.
		{rows(row{0, long, 65535, 1 << 32}), api.ErrBig},
		{rows(ten(), row{2, long, 65535, 1 << 32}), api.ErrBig},
		// A text that is cut off, though it is none as far as it is there.
		{"\x01\x00\x03\x21\x0a", api.ErrShort},
		// Bytes that are none, ahead of what is in common, the order, Metric and Seq, and of an end that comes too early.
		{rows(ten(), row{0, "\x08\x0a\x00", 65535, 1 << 32}), api.ErrForm},
		{rows(ten(), row{0, "\x07\x09", 65535, 1 << 32}), api.ErrForm},
		{rows(row{0, "\x21", 65535, 1 << 32}), api.ErrForm},
		{"\x01\x00\x01\x21", api.ErrForm},
		// What is in common, ahead of the order, Metric and Seq.
		{rows(ten(), row{0, "\x08\x0a", 65535, 1 << 32}), api.ErrForm},
		{rows(ten(), row{1, "\x0a", 65535, 1 << 32}), api.ErrForm},
		{rows(ten(), row{0, "\x08\x09", 65535, 1 << 32}), api.ErrForm},
		{"\x02" + ten().String() + "\x00\x02\x08\x0b", api.ErrForm},
		// The order, ahead of Metric and Seq, and of an end that comes too early.
		{rows(ten(), row{2, "", 65535, 1 << 32}), api.ErrOrder},
		{rows(ten(), row{1, "\x09", 65535, 1 << 32}), api.ErrOrder},
		{"\x02" + ten().String() + "\x02\x00", api.ErrOrder},
		{"\x02" + ten().String() + "\x02\x00" + "\x80\x00", api.ErrOrder},
		// Metric, ahead of Seq, and of an end that comes too early.
		{rows(row{0, "\x08\x0a", 65535, 1 << 32}), api.ErrArg},
		{"\x01\x00\x02\x08\x0a" + number(65535), api.ErrArg},
		{"\x01\x00\x02\x08\x0a" + number(65535) + "\x80\x00", api.ErrArg},
		// Seq, ahead of bytes that are left.
		{rows(row{0, "\x08\x0a", 1, 1 << 32}) + "\x00", api.ErrBig},
		// A number that is none, ahead of how great it is.
		{"\x01\x00\x02\x08\x0a" + longer(65535), api.ErrForm},
		{"\x01\x00\x02\x08\x0a\x01" + longer(1<<32), api.ErrForm},
		{"\x01\x00" + longer(18), api.ErrForm},
		{longer(301), api.ErrForm},
	} {
		expectWrong(t, c.s, c.want)
	}
}

// P7.1: of several errors in two routes that of the first route, whichever it is; what is left behind comes last.
func TestReadOfSeveralErrorsInTwoRoutes(t *testing.T) {
	type fault struct {
		r    row
		want api.Errno
	}
	// Behind 10.0.0.0/8, with 08 0a.
	faults := []fault{
		{row{3, "", 1, 0}, api.ErrForm},
		{row{0, strings.Repeat("\x00", 18), 1, 0}, api.ErrBig},
		{row{0, "\x21", 1, 0}, api.ErrForm},
		{row{0, "\x08\x0b", 1, 0}, api.ErrForm},
		{row{2, "", 1, 0}, api.ErrOrder},
		{row{1, "\x0b", 65535, 0}, api.ErrArg},
		{row{1, "\x0b", 1, 1 << 32}, api.ErrBig},
	}
	for _, one := range faults {
		expectWrong(t, rows(ten(), one.r), one.want)
		for _, two := range faults {
			expectWrong(t, rows(ten(), one.r, two.r), one.want)
			expectWrong(t, rows(ten(), one.r, two.r)+"\x00", one.want)
		}
		for _, behind := range []string{"", "\x80", "\x80\x00", "\x00\x00"} {
			expectWrong(t, "\x03"+ten().String()+one.r.String()+behind, one.want)
			expectWrong(t, "\x02"+ten().String()+one.r.String()+behind, one.want)
		}
	}
}
