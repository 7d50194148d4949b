package incr_test

import (
	"math"
	"slices"
	"strings"
	"testing"

	"signpost/api"
	"signpost/incr"
)

// ten: an addition of 10.0.0.0/8, as bytes.
const ten = "\x01\x08\x0a\x01\x00"

// printed: a row's bytes.
func printed(t *testing.T, list ...api.Inc) string {
	t.Helper()
	s, err := incr.Print(list)
	if err != api.OK {
		t.Fatalf("%d changes: error %d", len(list), err)
	}
	return s
}

// P8.1: a row that is cut off at any byte ends too early; so does one that tells of more changes than there are.
func TestReadOfWhatIsCutOff(t *testing.T) {
	whole := []string{"\x00", "\x01" + ten, printed(t, adds(200)...)}
	for part := range slices.Chunk(edges(), 50) {
		whole = append(whole, printed(t, part...))
	}
	for _, s := range whole {
		if hold(t, s) != api.OK {
			t.Fatalf("%x isn't right", s)
		}
		for n := range len(s) {
			expectWrong(t, s[:n], api.ErrShort)
		}
	}
	expectWrong(t, "\x02"+ten, api.ErrShort)
	expectWrong(t, "\x80", api.ErrShort)
	expectWrong(t, number(200), api.ErrShort)
}

// P8.1: bytes behind the last change: the reader's Done.
func TestReadOfBytesBehind(t *testing.T) {
	for _, s := range []string{"\x00", "\x01" + ten, "\x01\x03\x08\x0a", printed(t, adds(200)...)} {
		for _, behind := range []string{"\x00", "\x01", "\x03", "\x80", "\xff", "\x00\x00", ten, s} {
			expectWrong(t, s+behind, api.ErrForm)
		}
	}
}

// P8.1: more than 200 changes are told, whatever stands behind, if anything does.
func TestReadOfTooMany(t *testing.T) {
	for _, n := range []uint64{201, 202, 255, 256, 257, 1 << 16, 1 << 31, 1 << 32, 1<<32 + 1, 1 << 63, math.MaxUint64} {
		for _, behind := range []string{"", "\x00", ten, "\x80\x00", strings.Repeat(ten, 201), strings.Repeat(ten, int(n%300))} {
			expectWrong(t, number(n)+behind, api.ErrBig)
		}
	}
	if hold(t, number(200)+strings.Repeat(ten, 200)) != api.OK {
		t.Error("200 may be")
	}
}

// P8.1: each byte as a Kind, with all that a change of any kind may need, and with nothing behind it.
func TestReadOfEachKind(t *testing.T) {
	for kind := range 256 {
		first := string([]byte{byte(kind)})
		if kind < 1 || kind > 3 {
			for _, behind := range []string{"", "\x08\x0a", "\x08\x0a\x01\x00", "\x21", "\x80\x00"} {
				expectWrong(t, "\x01"+first+behind, api.ErrForm)
				expectWrong(t, "\x02"+ten+first+behind, api.ErrForm)
			}
			continue
		}
		want := api.Inc{Kind: kind, Route: way(four(10, 0, 0, 0, 8), 5, 6)}
		s := "\x01" + first + "\x08\x0a\x05\x06"
		if kind == api.IWithdraw {
			expectWrong(t, s, api.ErrForm)
			want, s = withdraw(want.Route.To), s[:4]
		}
		if list, err := incr.Read(s); !slices.Equal(list, row(want)) || err != api.OK {
			t.Errorf("%x: %v, error %d", s, list, err)
		}
	}
}

// P8.1: bytes are no prefix's: a first byte that is none, or a bit that must be 0; bytes that end within it are the reader's error.
func TestReadOfNoPrefix(t *testing.T) {
	for _, kind := range []string{"\x01", "\x02", "\x03"} {
		for _, text := range []string{
			"\x21", "\x21\x0a\x00\x00\x00\x00", "\x3f", "\xc1", "\xff" + strings.Repeat("\x00", 16),
			"\x07\x0b", "\x01\xc0", "\x09\x0a\x01", "\x1f\x00\x00\x00\x01", "\x41\x40", "\xbf" + strings.Repeat("\x00", 15) + "\x01",
		} {
			for _, behind := range []string{"", "\x01\x00", "\x80\x00", number(65535) + number(1<<32)} {
				expectWrong(t, "\x01"+kind+text+behind, api.ErrForm)
				expectWrong(t, "\x02"+ten+kind+text+behind, api.ErrForm)
			}
		}
		for _, text := range []string{"", "\x08", "\x09\x0b", "\x20\x0a\x01\x02", "\x48", "\xc0" + strings.Repeat("\x00", 15)} {
			expectWrong(t, "\x01"+kind+text, api.ErrShort)
		}
	}
}

// P8.1: Metric up to 65534, Seq up to 2^32 - 1.
func TestReadOfGreatNumbers(t *testing.T) {
	for _, kind := range []int{api.IAdd, api.IChange} {
		first := string([]byte{byte(kind), 8, 10})
		for _, metric := range []uint64{65535, 65536, 1 << 31, 1 << 32, 1<<32 + 1, 1 << 63, math.MaxUint64} {
			expectWrong(t, "\x01"+first+number(metric)+"\x00", api.ErrArg)
			expectWrong(t, "\x02"+ten+first+number(metric)+"\x00", api.ErrArg)
		}
		for _, seq := range []uint64{1 << 32, 1<<32 + 1, 1 << 33, 1 << 63, math.MaxUint64} {
			expectWrong(t, "\x01"+first+"\x00"+number(seq), api.ErrBig)
			expectWrong(t, "\x02"+ten+first+"\x00"+number(seq), api.ErrBig)
		}
		for _, metric := range []uint64{0, 1, 65533, 65534} {
			for _, seq := range []uint64{0, 1, 1<<31 - 1, 1 << 31, 1<<32 - 2, 1<<32 - 1} {
				list, err := incr.Read("\x01" + first + number(metric) + number(seq))
				want := api.Inc{Kind: kind, Route: way(four(10, 0, 0, 0, 8), int(metric), uint32(seq))}
				if !slices.Equal(list, row(want)) || err != api.OK {
					t.Errorf("%v: %v, error %d", want, list, err)
				}
			}
		}
	}
}

// P8.1: numbers that aren't in their shortest form, or don't fit in 64 bits, in the place of each number.
func TestReadOfNumbersThatAreNone(t *testing.T) {
	tooGreat := strings.Repeat("\xff", 9) + "\x02"
	endless := strings.Repeat("\x80", 20)
	for at, n := range []uint64{2, 1, 0, 300, 300} {
		for _, wrong := range []string{longer(n), longer(n)[:len(longer(n))-1] + "\x80\x00", tooGreat, endless} {
			part := func(i int, right string) string {
				if i == at {
					return wrong
				}
				return right
			}
			s := part(0, "\x02") + "\x01\x08\x0a" + part(1, "\x01") + part(2, "\x00") + "\x02\x08\x0a" + part(3, number(300)) + part(4, number(300))
			expectWrong(t, s, api.ErrForm)
		}
	}
	// A Kind is a byte, not a number.
	expectWrong(t, "\x01\x81\x00\x08\x0a\x01\x00", api.ErrForm)
}

// P8.1: of several errors in one change the first, in the order of its fields.
func TestReadOfSeveralErrorsInAChange(t *testing.T) {
	for _, c := range []struct {
		s    string
		want api.Errno
	}{
		// How many there are, ahead of all else.
		{number(201) + "\x04\x21" + number(65535) + number(1<<32), api.ErrBig},
		{longer(201) + "\x04", api.ErrForm},
		// A Kind that is none, ahead of a prefix that is none, Metric and Seq, and of an end that comes too early.
		{"\x01\x04\x21" + number(65535) + number(1<<32), api.ErrForm},
		{"\x01\x00", api.ErrForm},
		// A prefix that is none, ahead of Metric and Seq, and of an end that comes too early.
		{"\x01\x01\x21" + number(65535) + number(1<<32), api.ErrForm},
		{"\x01\x01\x07\x0b" + number(65535) + number(1<<32), api.ErrForm},
		{"\x01\x02\x07\x0b", api.ErrForm},
		// Metric, ahead of Seq, and of an end that comes too early.
		{"\x01\x01\x08\x0a" + number(65535) + number(1<<32), api.ErrArg},
		{"\x01\x02\x08\x0a" + number(65535), api.ErrArg},
		{"\x01\x02\x08\x0a" + number(65535) + "\x80\x00", api.ErrArg},
		// Seq, ahead of bytes that are left.
		{"\x01\x01\x08\x0a\x01" + number(1<<32) + "\x00", api.ErrBig},
		// A number that is none, ahead of how great it is.
		{"\x01\x01\x08\x0a" + longer(65535) + "\x00", api.ErrForm},
		{"\x01\x01\x08\x0a\x01" + longer(1<<32), api.ErrForm},
		{"\x01\x01\x08\x0a\xff\xff\x83", api.ErrShort},
	} {
		expectWrong(t, c.s, c.want)
	}
}

// P8.1: of several errors in two changes that of the first one, whichever it is; what is left behind comes last.
func TestReadOfSeveralErrorsInTwoChanges(t *testing.T) {
	faults := []struct {
		s    string
		want api.Errno
	}{
		{"\x00\x08\x0a\x01\x00", api.ErrForm},
		{"\x04", api.ErrForm},
		{"\x01\x21\x01\x00", api.ErrForm},
		{"\x03\x07\x0b", api.ErrForm},
		{"\x01\x08\x0a" + number(65535) + "\x00", api.ErrArg},
		{"\x02\x08\x0a" + number(1<<63) + "\x00", api.ErrArg},
		{"\x01\x08\x0a\x00" + number(1<<32), api.ErrBig},
		{"\x01\x08\x0a\x80\x00\x00", api.ErrForm},
	}
	for _, one := range faults {
		for _, behind := range []string{"", "\x80", "\x80\x00", "\x00\x00", ten} {
			expectWrong(t, "\x01"+one.s+behind, one.want)
			expectWrong(t, "\x02"+one.s+behind, one.want)
			expectWrong(t, "\x03"+ten+one.s+behind, one.want)
		}
		for _, two := range faults {
			expectWrong(t, "\x02"+one.s+two.s, one.want)
			expectWrong(t, "\x03"+ten+one.s+two.s+"\x00", one.want)
		}
	}
}

// P8.1: Read answers a list of its own each time.
func TestReadAnswersNewLists(t *testing.T) {
	s := printed(t, adds(5)...)
	list, _ := incr.Read(s)
	clear(list)
	if list, err := incr.Read(s); !slices.Equal(list, adds(5)) || err != api.OK {
		t.Errorf("%v, error %d", list, err)
	}
}
