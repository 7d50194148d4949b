package digest_test

import (
	"math"
	"math/rand"
	"slices"
	"strings"
	"testing"

	"signpost/api"
	"signpost/digest"
)

// empty is a range without routes, as bytes.
const empty = "\x00\x00"

// P9.2: digests, byte by byte, both ways.
func TestDigests(t *testing.T) {
	list := make([]digest.Digest, 17)
	list[0], list[1], list[2], list[3] = digest.Digest{N: 1, Sum: 2}, digest.Digest{N: 300, Sum: 300}, digest.Digest{N: 127, Sum: math.MaxUint64}, digest.Digest{N: 128, Sum: 1 << 63}
	list[16] = digest.Digest{N: 2, Sum: 127}
	want := "\x01\x02" + "\xac\x02\xac\x02" + "\x7f" + strings.Repeat("\xff", 9) + "\x01" + "\x80\x01" + strings.Repeat("\x80", 9) + "\x01" + strings.Repeat(empty, 12) + "\x02\x7f"
	if got := digest.Print(list); got != want {
		t.Errorf("%x, not %x", got, want)
	}
	if got, err := digest.Read(want); !slices.Equal(got, list) || err != api.OK {
		t.Errorf("%v, error %d", got, err)
	}
	hold(t, want)
	if got, err := digest.Read(strings.Repeat(empty, 17)); !slices.Equal(got, make([]digest.Digest, 17)) || err != api.OK {
		t.Errorf("%v, error %d", got, err)
	}
}

// P9.2: lists of any length are written; only those of 17 are read.
func TestPrintOfOtherLengths(t *testing.T) {
	for _, n := range []int{0, 1, 16, 17, 18, 34} {
		list := some(n)
		for i := range list {
			list[i].N %= 301
		}
		s := digest.Print(list)
		if want := printed(list...); s != want {
			t.Errorf("%d: %x, not %x", n, s, want)
		}
		want := api.OK
		if n < 17 {
			want = api.ErrShort
		} else if n > 17 {
			want = api.ErrForm
		}
		if err := hold(t, s); err != want {
			t.Errorf("%d: error %d", n, err)
		}
	}
	if s := digest.Print(nil); s != "" {
		t.Errorf("%x", s)
	}
}

// P9.2: an N below 0 is written as 0, its Sum as it is; an N that is too great is written, but not read.
func TestPrintOfAnyN(t *testing.T) {
	for _, n := range []int{-1, -2, -300, math.MinInt} {
		for i := range 17 {
			list := some(17)
			list[i].N = n
			want := slices.Clone(list)
			want[i].N = 0
			s := digest.Print(list)
			if s != printed(want...) || s != digest.Print(want) || list[i].N != n {
				t.Errorf("%d: %x", n, s)
			}
			if got, err := digest.Read(s); !slices.Equal(got, want) || err != api.OK {
				t.Errorf("%d: %v, error %d", n, got, err)
			}
		}
	}
	for _, n := range []int{299, 300, 301, 302, 1 << 32, math.MaxInt} {
		for i := range 17 {
			list := some(17)
			list[i].N = n
			s := digest.Print(list)
			if s != printed(list...) {
				t.Errorf("%d: %x", n, s)
			}
			if err := hold(t, s); (err == api.OK) != (n <= 300) {
				t.Errorf("%d: error %d", n, err)
			}
		}
	}
}

// P9.2: what is written of 17 digests is read as it was; unlike ones have unlike bytes.
func TestWhatIsWrittenIsRead(t *testing.T) {
	source := rand.New(rand.NewSource(922))
	seen := map[string][]digest.Digest{}
	for i := range 5000 {
		list := make([]digest.Digest, 17)
		for k := range list {
			list[k] = digest.Digest{N: source.Intn(301), Sum: source.Uint64() >> source.Intn(65)}
			if i%2 == 0 {
				list[k] = digest.Digest{N: source.Intn(2) * 300, Sum: uint64(source.Intn(2)) * math.MaxUint64}
			}
		}
		s := digest.Print(list)
		if got, err := digest.Read(s); !slices.Equal(got, list) || err != api.OK {
			t.Fatalf("%v: %v, error %d", list, got, err)
		}
		if hold(t, s); seen[s] != nil && !slices.Equal(seen[s], list) {
			t.Fatalf("%x: of two lists", s)
		}
		seen[s] = list
	}
	x := digest.All(of(t, spread(300)...))
	if got, err := digest.Read(digest.Print(x)); !slices.Equal(got, x) || err != api.OK {
		t.Errorf("%v, error %d", got, err)
	}
}

// lists: some lists of 17 digests, of few bytes and of many.
func lists() [][]digest.Digest {
	return [][]digest.Digest{make([]digest.Digest, 17), some(17), slices.Repeat([]digest.Digest{{N: 300, Sum: math.MaxUint64}}, 17), slices.Repeat([]digest.Digest{{N: 127, Sum: 128}}, 17)}
}

// P9.2: bytes that are cut off at any byte end too early.
func TestReadOfWhatIsCutOff(t *testing.T) {
	for _, list := range lists() {
		s := printed(list...)
		if hold(t, s) != api.OK {
			t.Fatalf("%x isn't right", s)
		}
		for n := range len(s) {
			expectWrong(t, s[:n], api.ErrShort)
		}
	}
}

// P9.2: bytes behind the last digest: the reader's Done.
func TestReadOfBytesBehind(t *testing.T) {
	for _, list := range lists() {
		for _, behind := range []string{"\x00", "\x01", "\x80", "\xff", empty, number(301), printed(list...)} {
			expectWrong(t, printed(list...)+behind, api.ErrForm)
		}
	}
}

// P9.2: an N above 300, in each range, whatever stands behind, if anything does.
func TestReadOfTooGreatN(t *testing.T) {
	for i := range 17 {
		ahead := strings.Repeat("\x01\x05", i)
		for _, n := range []uint64{301, 302, 511, 512, 1 << 16, 1<<16 + 1, 1 << 31, 1 << 32, 1<<32 + 1, 1 << 63, 1<<63 + 5, math.MaxUint64} {
			for _, behind := range []string{"", "\x00", "\x80", "\x80\x00", longer(5), strings.Repeat("\xff", 11), strings.Repeat(empty, 17), "\x00" + strings.Repeat(empty, 16-i)} {
				expectWrong(t, ahead+number(n)+behind, api.ErrBig)
			}
		}
		if err := hold(t, ahead+number(300)+"\x00"+strings.Repeat(empty, 16-i)); err != api.OK {
			t.Errorf("300 in %d: error %d", i, err)
		}
	}
}

// P9.2: each N that may be, and each Sum at an end.
func TestReadOfEachN(t *testing.T) {
	for n := range 301 {
		for _, sum := range []uint64{0, 1, 127, 128, 1 << 32, 1 << 63, math.MaxUint64 - 1, math.MaxUint64} {
			list := make([]digest.Digest, 17)
			list[n%17] = digest.Digest{N: n, Sum: sum}
			if got, err := digest.Read(printed(list...)); !slices.Equal(got, list) || err != api.OK {
				t.Errorf("%d, %d: %v, error %d", n, sum, got, err)
			}
		}
	}
}

// P9.2: numbers that aren't in their shortest form, or don't fit in 64 bits, in the place of each number; those too great, but longer than they must be, too.
func TestReadOfNumbersThatAreNone(t *testing.T) {
	for at := range 34 {
		ahead, behind := strings.Repeat("\x01", at), strings.Repeat("\x01", 33-at)
		if hold(t, ahead+"\x01"+behind) != api.OK {
			t.Fatal("these are none")
		}
		for _, wrong := range []string{longer(0), longer(1), longer(127), longer(300), longer(301), longer(1 << 62), "\x81\x80\x00", strings.Repeat("\xff", 9) + "\x02", strings.Repeat("\x80", 10), strings.Repeat("\x80", 20)} {
			expectWrong(t, ahead+wrong+behind, api.ErrForm)
			expectWrong(t, ahead+wrong, api.ErrForm)
			expectWrong(t, ahead+wrong+number(301), api.ErrForm)
		}
	}
}

// P9.2: of several errors that of the first number, whichever it is; what is left behind comes last.
func TestReadOfSeveralErrors(t *testing.T) {
	faults := []struct {
		s    string // a digest
		want api.Errno
	}{
		{number(301) + "\x00", api.ErrBig},
		{number(301) + "\x80\x00", api.ErrBig},
		{"\x80\x00\x00", api.ErrForm},
		{"\x01" + longer(7), api.ErrForm},
		{number(math.MaxUint64) + number(math.MaxUint64), api.ErrBig},
	}
	for i := range 17 {
		for k := i + 1; k < 17; k++ {
			for _, one := range faults {
				for _, two := range faults {
					s := strings.Repeat(empty, i) + one.s + strings.Repeat(empty, k-i-1) + two.s
					expectWrong(t, s, one.want)
					expectWrong(t, s+strings.Repeat(empty, 16-k), one.want)
					expectWrong(t, s+strings.Repeat(empty, 20-k), one.want)
				}
			}
		}
	}
}

// P9.2, of bytes that differ from those of digests by a byte that is another one, that goes, or that comes.
func TestReadOfBytesNearby(t *testing.T) {
	count := map[api.Errno]int{}
	for _, list := range lists() {
		s := printed(list...)
		for i := range len(s) + 1 {
			for b := range 256 {
				count[hold(t, s[:i]+string([]byte{byte(b)})+s[i:])]++
				if i < len(s) {
					count[hold(t, s[:i]+string([]byte{byte(b)})+s[i+1:])]++
				}
			}
			if i < len(s) {
				count[hold(t, s[:i]+s[i+1:])]++
			}
		}
	}
	for _, err := range []api.Errno{api.OK, api.ErrShort, api.ErrForm, api.ErrBig} {
		if count[err] < 20 {
			t.Errorf("error %d: only %d", err, count[err])
		}
	}
}

// P9.2: Read answers a list of its own each time.
func TestReadAnswersNewLists(t *testing.T) {
	s := printed(some(17)...)
	list, _ := digest.Read(s)
	clear(list)
	if list, err := digest.Read(s); !slices.Equal(list, some(17)) || err != api.OK {
		t.Errorf("%v, error %d", list, err)
	}
}

// P9.2 and rule 1, of any bytes.
func FuzzRead(f *testing.F) {
	for _, list := range lists() {
		f.Add(printed(list...))
	}
	f.Add(strings.Repeat(empty, 16) + number(301))
	f.Add(strings.Repeat(empty, 18))
	f.Fuzz(func(t *testing.T, s string) { hold(t, s) })
}
