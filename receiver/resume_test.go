package receiver_test

import (
	"math"
	"strings"
	"testing"

	"signpost/api"
)

// cursors: some that are right, of few bytes and of many, of numbers of one byte and of several.
func cursors() []string {
	many := head(math.MaxUint32, math.MaxUint32, 256)
	for i := range uint64(256) {
		many += part(i, "x")
	}
	return []string{
		head(0, 0, 1) + number(1),
		head(0, 0, 1) + part(0, "") + number(1),
		head(1, 300, 4) + part(1, "b") + part(3, "d") + number(4),
		head(math.MaxUint32, 128, 256) + part(0, text(200)) + part(127, "") + part(128, "\x80") + part(255, text(1000)) + number(256),
		head(7, 7, 128) + part(0, "\x80\x01") + part(127, "\x7f") + number(128),
		many + number(256),
	}
}

// P14.3: bytes that are cut off anywhere end too early.
func TestResumeOfWhatIsCutOff(t *testing.T) {
	for _, s := range cursors() {
		expectRight(t, s)
		for n := range len(s) {
			expectNone(t, s[:n], api.ErrShort)
		}
	}
}

// expectRight holds that bytes are a cursor.
func expectRight(t *testing.T, s string) {
	t.Helper()
	if _, _, err := resume(t, s); err != api.OK {
		t.Fatalf("%x: error %d", s, err)
	}
}

// P14.3: bytes behind the end: the reader's Done, whatever they are.
func TestResumeOfBytesBehind(t *testing.T) {
	for _, s := range cursors() {
		for _, behind := range []string{"\x00", "\x01", "\x80", "\xff", s[len(s)-1:], part(0, ""), number(256), longer(4), strings.Repeat("\xff", 11), s} {
			expectNone(t, s+behind, api.ErrForm)
		}
	}
}

// P14.3: ErrArg of three numbers of which there is no receiver, whatever stands behind, if anything does.
func TestResumeOfWrongHeads(t *testing.T) {
	for _, behind := range []string{"", "\x00", "\x80", longer(3), part(0, "a"), number(2), part(0, "a") + number(2), "\x00\xe9\x07"} {
		for _, wrong := range []uint64{1 << 32, 1<<32 + 1, 1 << 33, 1 << 62, 1<<63 - 1, 1 << 63, 1<<63 + 1, math.MaxUint64 - 1, math.MaxUint64} {
			expectNone(t, head(wrong, 0, 2)+behind, api.ErrArg)
			expectNone(t, head(0, wrong, 2)+behind, api.ErrArg)
			expectNone(t, head(wrong, wrong, 2)+behind, api.ErrArg)
			expectNone(t, head(1, 1, wrong)+behind, api.ErrArg)
			expectNone(t, head(wrong, wrong, wrong)+behind, api.ErrArg)
		}
		for _, total := range []uint64{0, 257, 258, 511, 512, 65536 + 2, 1<<32 + 2, 1<<63 + 2} {
			expectNone(t, head(1, 1, total)+behind, api.ErrArg)
			expectNone(t, head(1, 1, total)+number(total)+behind, api.ErrArg)
			expectNone(t, head(1<<32, 1, total)+behind, api.ErrArg)
		}
	}
	for _, right := range rightNumbers() {
		expectRight(t, head(uint64(right), 0, 2)+number(2))
		expectRight(t, head(0, uint64(right), 2)+number(2))
	}
}

// P14.3: New is asked once all three are read: what is wrong with the bytes of one of them is told ahead of it.
func TestResumeReadsTheWholeHead(t *testing.T) {
	for _, wrong := range []uint64{1 << 32, 1 << 63, math.MaxUint64} {
		expectNone(t, number(wrong), api.ErrShort)
		expectNone(t, number(wrong)+number(1), api.ErrShort)
		expectNone(t, number(wrong)+number(wrong)+"\x80", api.ErrShort)
		expectNone(t, number(wrong)+longer(1), api.ErrForm)
		expectNone(t, number(wrong)+number(1)+longer(2), api.ErrForm)
	}
}

// P14.3: ErrIndex of a number above total, in the place of any chunk, whatever stands behind.
func TestResumeOfNumbersNotBelowTotal(t *testing.T) {
	for _, total := range []uint64{1, 2, 17, 127, 128, 255, 256} {
		ahead := head(1, 2, total)
		for _, there := range []string{"", part(0, "a"), part(total-1, "z")} {
			for _, n := range []uint64{total + 1, total + 2, 257, 2*total + 1, total + 256, total + 65536, total + 1<<32, 1<<32 + 1, 1<<63 - 1, 1 << 63, 1<<63 + total, math.MaxUint64} {
				for _, behind := range []string{"", "\x80", part(0, "a"), number(total), "\xe9\x07"} {
					expectNone(t, ahead+there+number(n)+behind, api.ErrIndex)
				}
			}
		}
	}
}

// P14.3: total itself is the end: what stands behind it as a chunk's text is bytes behind the end.
func TestResumeOfTotalAsANumber(t *testing.T) {
	for _, total := range []uint64{1, 2, 17, 128, 256} {
		for _, there := range []string{"", part(0, "a"), part(total-1, "z")} {
			expectNone(t, head(1, 2, total)+there+part(total, "b"), api.ErrForm)
			expectNone(t, head(1, 2, total)+there+part(total, "")+number(total), api.ErrForm)
			expectRight(t, head(1, 2, total)+there+number(total))
		}
	}
}

// P14.3: ErrOrder of a number that isn't above the one ahead, whatever stands behind.
func TestResumeOfNumbersThatDoNotRise(t *testing.T) {
	for _, total := range []uint64{2, 3, 17, 128, 129, 256} {
		for _, last := range []uint64{0, 1, total / 2, total - 1} {
			for n := range last + 1 {
				for _, behind := range []string{"", "\x00", "\x80", "\x01a" + number(total), "\xe9\x07", longer(1)} {
					expectNone(t, head(1, 2, total)+part(last, "a")+number(n)+behind, api.ErrOrder)
				}
			}
			if last+1 < total {
				expectRight(t, head(1, 2, total)+part(last, "a")+part(last+1, "b")+number(total))
			}
		}
	}
	expectNone(t, head(1, 2, 9)+part(0, "")+part(1, "")+part(1, "")+number(9), api.ErrOrder)
	expectNone(t, head(1, 2, 9)+part(0, "")+part(5, "")+part(4, "")+part(6, "")+number(9), api.ErrOrder)
	expectNone(t, head(1, 2, 9)+part(5, "")+part(6, "")+part(7, "")+part(0, "")+number(9), api.ErrOrder)
	for first := range uint64(9) {
		expectRight(t, head(1, 2, 9)+part(first, "")+number(9))
	}
}

// P14.3: texts of up to 1000 bytes; ErrBig of more, whether there are as many or not, in any chunk.
func TestResumeOfLengths(t *testing.T) {
	for _, there := range []string{"", part(0, "a"), part(0, text(1000))} {
		for _, size := range []int{0, 1, 127, 128, 999, 1000} {
			expectRight(t, head(1, 2, 4)+there+part(2, text(size))+number(4))
		}
		for _, size := range []int{1001, 1002, 1023, 1024, 1256, 2000, 65536, 66000} {
			expectNone(t, head(1, 2, 4)+there+part(2, text(size))+number(4), api.ErrBig)
		}
		for _, size := range []uint64{1001, 65536 + 1, 1 << 32, 1<<32 + 1, 1<<63 - 1, 1 << 63, math.MaxUint64} {
			for _, behind := range []string{"", "a", "\x80", number(4), text(1001) + number(4) + "\x00"} {
				expectNone(t, head(1, 2, 4)+there+number(2)+number(size)+behind, api.ErrBig)
			}
		}
	}
}

// fields: a cursor, cut into its numbers and texts, and which of them are numbers.
func fields() ([]string, []bool) {
	return []string{number(1), number(300), number(4), number(0), number(2), "ab", number(1), number(0), "", number(3), number(128), text(128), number(4)},
		[]bool{true, true, true, true, true, false, true, true, false, true, true, false, true}
}

// P14.3: numbers in another form than layer 1's, or that don't fit in 64 bits, in the place of each number, whatever stands behind.
func TestResumeOfNumbersThatAreNone(t *testing.T) {
	list, numbers := fields()
	expectRight(t, strings.Join(list, ""))
	for at := range list {
		if !numbers[at] {
			continue
		}
		ahead, behind := strings.Join(list[:at], ""), strings.Join(list[at+1:], "")
		for _, wrong := range []string{"\x80\x00", longer(1), longer(4), longer(5), longer(127), longer(1001), longer(1 << 32), longer(1 << 62), "\x81\x80\x00", strings.Repeat("\xff", 9) + "\x02", strings.Repeat("\x80", 10), strings.Repeat("\xff", 20)} {
			expectNone(t, ahead+wrong+behind, api.ErrForm)
			expectNone(t, ahead+wrong, api.ErrForm)
			expectNone(t, ahead+wrong+longer(0), api.ErrForm)
		}
		expectNone(t, ahead+"\x80", api.ErrShort)
		expectNone(t, ahead+strings.Repeat("\xff", 9), api.ErrShort)
	}
}

// P14.3: of several errors the first one from the front: each of these is wrong by itself in the place of one chunk, and stays so with each of them behind it.
func TestResumeOfSeveralErrors(t *testing.T) {
	wrong := []struct {
		s    string
		want api.Errno
	}{
		{number(10), api.ErrIndex}, {part(257, text(1001)), api.ErrIndex}, {number(11) + longer(1), api.ErrIndex},
		{number(3), api.ErrOrder}, {part(0, text(1001)), api.ErrOrder}, {number(2) + longer(1), api.ErrOrder},
		{part(5, text(1001)), api.ErrBig}, {number(5) + number(1001), api.ErrBig},
		{longer(5), api.ErrForm}, {longer(1), api.ErrForm}, {longer(20), api.ErrForm}, {number(5) + longer(1001), api.ErrForm}, {number(9) + "\x80", api.ErrForm},
	}
	ahead := head(1, 2, 9) + part(3, "a")
	for _, one := range wrong {
		for _, two := range wrong {
			for _, between := range []string{"", part(5, "a"), part(0, "")} {
				for _, end := range []string{"", number(9), number(9) + "\x00"} {
					expectNone(t, ahead+one.s+between+two.s+end, one.want)
					expectNone(t, head(1, 2, 300)+part(3, "a")+one.s+between+two.s+end, api.ErrArg)
				}
			}
		}
	}
	expectNone(t, ahead+number(5)+number(20)+"too few", api.ErrShort)
	expectNone(t, ahead+number(5)+number(1000)+text(999), api.ErrShort)
}
