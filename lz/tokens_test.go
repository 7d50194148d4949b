package lz_test

import (
	"math"
	"slices"
	"strings"
	"testing"

	"signpost/api"
	"signpost/lz"
)

// expectTokens holds what Tokens and Unpack tell of packed bytes that are right.
func expectTokens(t *testing.T, row string, list []lz.Token, text string) {
	t.Helper()
	s := bytesOf(row)
	if got, err := lz.Tokens(s); err != api.OK || !slices.Equal(got, list) {
		t.Errorf("%s: tokens %v, error %d; not %v", row, got, err, list)
	}
	if got, err := lz.Unpack(s, len(text)); err != api.OK || got != text {
		t.Errorf("%s: text %q, error %d; not %q", row, got, err, text)
	}
	hold(t, s)
}

// expectWrong holds what is wrong with packed bytes, for Tokens, and for Unpack whatever the most is.
func expectWrong(t *testing.T, what, s string, want api.Errno) {
	t.Helper()
	if list, err := lz.Tokens(s); len(list) != 0 || err != want {
		t.Errorf("%s: tokens %v, error %d; not %d", what, list, err, want)
	}
	for _, most := range []int{math.MinInt, -1, 0, 1, 65536, math.MaxInt} {
		if text, err := lz.Unpack(s, most); text != "" || err != want {
			t.Errorf("%s, %d: text %q, error %d; not %d", what, most, text, err, want)
		}
	}
	hold(t, s)
}

// P5.2: bytes and copies, put together by hand.
func TestTokens(t *testing.T) {
	for _, c := range []struct {
		row  string
		list []lz.Token
		text string
	}{
		{"1", nil, ""},
		{"010 0 10000110", []lz.Token{{B: 'a'}}, "a"},
		{"010 0 00000000", []lz.Token{{B: 0}}, "\x00"},
		{"010 0 11111111", []lz.Token{{B: 255}}, "\xff"},
		{"011 0 10000110 0 01000110", []lz.Token{{B: 'a'}, {B: 'b'}}, "ab"},
		// aaaaaa, the document's example.
		{"00111 0 10000110 1 1 011", []lz.Token{{B: 'a'}, {Back: 1, Len: 5}}, "aaaaaa"},
		// Back of 1, Len of 3, which ends just at the length.
		{"00110 0 10000110 1 1 1", []lz.Token{{B: 'a'}, {Back: 1, Len: 3}}, "aaaa"},
		// Back of all that the text has so far; the copy goes into itself.
		{code(9) + single('a') + single('b') + double(2, 7), []lz.Token{{B: 'a'}, {B: 'b'}, {Back: 2, Len: 7}}, "ababababa"},
		// A copy behind a copy, of a copy.
		{
			code(13) + single('x') + single('y') + single('z') + double(3, 3) + double(6, 3) + double(8, 3) + single('!'),
			[]lz.Token{{B: 'x'}, {B: 'y'}, {B: 'z'}, {Back: 3, Len: 3}, {Back: 6, Len: 3}, {Back: 8, Len: 3}, {B: '!'}},
			"xyzxyzxyzyzx!",
		},
		// The longest text there is.
		{code(65536) + single('q') + double(1, 65535), []lz.Token{{B: 'q'}, {Back: 1, Len: 65535}}, strings.Repeat("q", 65536)},
	} {
		expectTokens(t, c.row, c.list, c.text)
	}
}

// P5.2: the farthest copy, from the first byte of 65533.
func TestTokensFar(t *testing.T) {
	s := mixed(65533, 9, 256)
	row := code(65536)
	var list []lz.Token
	var all strings.Builder
	for _, b := range []byte(s) {
		all.WriteString(single(b))
		list = append(list, lz.Token{B: b})
	}
	packed := bytesOf(row + all.String() + double(65533, 3))
	got, err := lz.Tokens(packed)
	if err != api.OK || !slices.Equal(got, append(list, lz.Token{Back: 65533, Len: 3})) {
		t.Errorf("%d tokens, error %d", len(got), err)
	}
	if text, err := lz.Unpack(packed, 65536); err != api.OK || text != s+s[:3] {
		t.Errorf("%d bytes, error %d", len(text), err)
	}
	expectRange := bytesOf(row + all.String() + double(65534, 3))
	if got, err := lz.Tokens(expectRange); len(got) != 0 || err != api.ErrRange {
		t.Errorf("%d tokens, error %d", len(got), err)
	}
}

// P5.2: the reader's ErrShort: bits that end in the length, in a byte, or in a code of a copy.
func TestTokensShort(t *testing.T) {
	for _, row := range []string{
		"",
		// In the length: in its noughts, and behind its 1.
		"00000000",
		"00000001",
		"00000000 1 0000000",
		// Behind the length and a token, ahead of the next one.
		code(9) + single('a'),
		// In a byte: in its midst, and just ahead of its last bit.
		code(2) + "0 1000",
		code(9) + single('a') + "0 1000011",
		// In the code of Back: ahead of it, in its noughts, and just ahead of its last bit.
		code(6) + single('a') + single('b') + "1",
		code(6) + single('a') + "1 0",
		code(6) + single('a') + single('b') + "1 0000 1 111",
		// In the code of Len, behind a code of Back that is right.
		code(6) + single('a') + "1 1",
		code(6) + single('a') + "1 1 00000000",
		code(6) + single('a') + "1 1 0000 1 111",
		// The same, behind a code of Back that is too great.
		code(6) + single('a') + "1 011 000000",
		code(6) + single('a') + "1 011 000 1 11",
	} {
		if len(strings.ReplaceAll(row, " ", ""))%8 != 0 {
			t.Errorf("%s: noughts would be filled up", row)
		}
		expectWrong(t, row, bytesOf(row), api.ErrShort)
	}
}

// P5.2: what is right, cut by a byte or more, has too few bits.
func TestTokensCut(t *testing.T) {
	for _, s := range []string{
		lz.Print(9, []lz.Token{{B: 'a'}, {B: 'b'}, {Back: 2, Len: 7}}),
		lz.Print(300, []lz.Token{{B: 'a'}, {Back: 1, Len: 100}, {B: 'c'}, {Back: 100, Len: 198}}),
		lz.Print(5, []lz.Token{{B: 'a'}, {B: 'b'}, {B: 'c'}, {B: 'd'}, {B: 'e'}}),
		lz.Print(65536, []lz.Token{{B: 'a'}, {Back: 1, Len: 65535}}),
	} {
		if _, err := lz.Tokens(s); err != api.OK {
			t.Fatalf("%x: error %d", s, err)
		}
		for n := range len(s) {
			expectWrong(t, "cut", s[:n], api.ErrShort)
		}
	}
}

// P5.2: the reader's ErrForm, where 64 noughts stand in place of a code.
func TestTokensNoughts(t *testing.T) {
	noughts := strings.Repeat("0", 64)
	for _, row := range []string{
		noughts,
		noughts + "1",
		code(6) + single('a') + "1" + noughts + "1",
		code(6) + single('a') + "1" + code(0) + noughts + "1",
		// Both codes are read ahead of what is asked of them.
		code(6) + single('a') + "1" + code(1) + noughts + "1",
		code(6) + "1" + code(0) + noughts,
	} {
		expectWrong(t, row, bytesOf(row), api.ErrForm)
	}
}

// P5.2: ErrBig, if the length is above 65536, whatever stands behind it.
func TestTokensBig(t *testing.T) {
	for _, n := range []uint64{65537, 65538, 1 << 20, 1 << 31, 1 << 32, 1<<32 + 1, 1<<63 - 1, 1 << 63, 1<<63 + 5, math.MaxUint64 - 1} {
		for _, behind := range []string{"", single('a'), "1" + code(5) + code(5), strings.Repeat("1", 40)} {
			expectWrong(t, "big", bytesOf(code(n)+behind), api.ErrBig)
		}
	}
	expectWrong(t, "as long as may be, but empty", bytesOf(code(65536)), api.ErrShort)
}

// P5.2: ErrRange, if Back is above what the text has so far.
func TestTokensRange(t *testing.T) {
	for _, row := range []string{
		code(3) + double(1, 3),
		code(9) + double(1, 3),
		code(9) + single('a') + double(2, 3),
		code(9) + single('a') + double(2, 8),
		code(9) + single('a') + single('b') + double(3, 4),
		code(9) + single('a') + double(1, 3) + double(5, 3),
		code(9) + single('a') + double(1<<31+1, 3),
		code(9) + single('a') + double(1<<32+1, 3),
		code(9) + single('a') + double(1<<63, 3),
		code(9) + single('a') + double(1<<63+1, 3),
		code(9) + single('a') + double(math.MaxUint64, 3),
		// Of two things that are wrong, the one that is named first.
		code(9) + single('a') + double(2, 9),
		code(9) + single('a') + double(math.MaxUint64, 1<<63),
		code(2) + single('a') + double(2, 3),
		// Of two copies that are wrong, the first; and what is left behind doesn't count.
		code(9) + single('a') + double(2, 3) + double(1, 100),
		code(9) + single('a') + double(2, 3) + strings.Repeat("1", 100),
	} {
		expectWrong(t, row, bytesOf(row), api.ErrRange)
	}
}

// P5.2: ErrForm, if Len goes beyond the length.
func TestTokensBeyond(t *testing.T) {
	for _, row := range []string{
		code(2) + single('a') + double(1, 3),
		code(3) + single('a') + double(1, 3),
		code(4) + single('a') + double(1, 4),
		code(9) + single('a') + double(1, 9),
		code(9) + single('a') + double(1, 3) + double(4, 6),
		code(9) + single('a') + double(1, 1<<31),
		code(9) + single('a') + double(1, 1<<32+3),
		code(9) + single('a') + double(1, 1<<63),
		code(9) + single('a') + double(1, 1<<63+3),
		code(9) + single('a') + double(1, math.MaxUint64),
		code(65536) + single('a') + double(1, 65536),
		code(9) + single('a') + double(1, 9) + double(100, 3),
	} {
		expectWrong(t, row, bytesOf(row), api.ErrForm)
	}
	// A code so great that with 3 more it would come round to a small one.
	row := code(9) + single('a') + "1" + code(0) + code(math.MaxUint64-1)
	expectWrong(t, row, bytesOf(row), api.ErrForm)
}

// P5.2: at the end the reader's Done: fewer than eight bits, all of them noughts.
func TestTokensDone(t *testing.T) {
	for _, row := range []string{
		"1 1",
		"1 0000001",
		"1 0000000 0",
		"1 0000000 00000000 1",
		code(1) + single('a') + "0001",
		code(1) + single('a') + "0000 00000000",
		code(1) + single('a') + single('b'),
		code(6) + single('a') + double(1, 5) + "1",
		code(6) + single('a') + double(1, 5) + double(1, 5),
	} {
		expectWrong(t, row, bytesOf(row), api.ErrForm)
	}
}

// P5.2: most is held against the text, behind all that Tokens finds wrong.
func TestUnpackMost(t *testing.T) {
	s := lz.Print(9, []lz.Token{{B: 'a'}, {B: 'b'}, {Back: 2, Len: 7}})
	for most, want := range map[int]api.Errno{
		math.MinInt: api.ErrBig, -1: api.ErrBig, 0: api.ErrBig, 1: api.ErrBig, 3: api.ErrBig, 8: api.ErrBig,
		9: api.OK, 10: api.OK, 65536: api.OK, math.MaxInt: api.OK,
	} {
		text := "ababababa"
		if want != api.OK {
			text = ""
		}
		if got, err := lz.Unpack(s, most); got != text || err != want {
			t.Errorf("%d: %q, error %d; not error %d", most, got, err, want)
		}
	}
	empty := bytesOf("1")
	for most, want := range map[int]api.Errno{math.MinInt: api.ErrBig, -1: api.ErrBig, 0: api.OK, 1: api.OK} {
		if got, err := lz.Unpack(empty, most); got != "" || err != want {
			t.Errorf("empty, %d: %q, error %d; not %d", most, got, err, want)
		}
	}
}

// P5.2: the packed bytes of tokens, right or not.
func TestPrint(t *testing.T) {
	for _, c := range []struct {
		n    int
		list []lz.Token
		row  string
	}{
		{0, nil, "1"},
		{0, []lz.Token{}, "1"},
		{1, []lz.Token{{B: 'a'}}, "010 0 10000110"},
		{6, []lz.Token{{B: 'a'}, {Back: 1, Len: 5}}, "00111 0 10000110 1 1 011"},
		{9, []lz.Token{{B: 'a'}, {B: 'b'}, {Back: 2, Len: 7}}, code(9) + single('a') + single('b') + double(2, 7)},
		// n below 0 as 0, and any n that isn't the text's length as it is.
		{-1, nil, "1"},
		{math.MinInt, []lz.Token{{B: 'a'}}, "1" + single('a')},
		{4, []lz.Token{{B: 'a'}}, code(4) + single('a')},
		{65537, nil, code(65537)},
		{math.MaxInt, nil, code(math.MaxInt)},
		// Back below 1 as 1.
		{3, []lz.Token{{Back: 0, Len: 3}}, code(3) + double(1, 3)},
		{3, []lz.Token{{Back: -1, Len: 4}}, code(3) + double(1, 4)},
		{3, []lz.Token{{Back: math.MinInt, Len: 5}}, code(3) + double(1, 5)},
		// Len below 3, but not 0, as 3.
		{3, []lz.Token{{Back: 2, Len: 1}}, code(3) + double(2, 3)},
		{3, []lz.Token{{Back: 2, Len: 2}}, code(3) + double(2, 3)},
		{3, []lz.Token{{Back: 2, Len: -1}}, code(3) + double(2, 3)},
		{3, []lz.Token{{Back: 2, Len: math.MinInt}}, code(3) + double(2, 3)},
		{3, []lz.Token{{Back: -5, Len: -5}}, code(3) + double(1, 3)},
		// Len 0 is the byte, whatever Back is; of a copy the byte doesn't count.
		{3, []lz.Token{{B: 'a', Back: 7}}, code(3) + single('a')},
		{3, []lz.Token{{B: 'a', Back: -7}}, code(3) + single('a')},
		{3, []lz.Token{{B: 255, Back: 7, Len: 4}}, code(3) + double(7, 4)},
		{3, []lz.Token{{}}, code(3) + single(0)},
		{3, []lz.Token{{Back: math.MaxInt, Len: math.MaxInt}}, code(3) + double(math.MaxInt, math.MaxInt)},
	} {
		if got := lz.Print(c.n, c.list); got != bytesOf(c.row) {
			t.Errorf("%d, %v: %x, not %x", c.n, c.list, got, bytesOf(c.row))
		}
	}
}

// What is handed in stays as it is, though it is taken as something else.
func TestPrintLeavesItsList(t *testing.T) {
	list := []lz.Token{{B: 'a', Back: -1}, {Back: -1, Len: -1}, {B: 3, Back: 0, Len: 2}}
	keep := slices.Clone(list)
	lz.Print(-1, list)
	if !slices.Equal(list, keep) {
		t.Error(list)
	}
}

// P5.2: tokens that are printed are read as they were, and the answers share nothing.
func TestTokensComeBack(t *testing.T) {
	list := []lz.Token{{B: 'a'}, {B: 'b'}, {Back: 2, Len: 3}, {Back: 1, Len: 1000}, {B: 0}, {Back: 1006, Len: 700}}
	s := lz.Print(1706, list)
	one, err := lz.Tokens(s)
	if err != api.OK || !slices.Equal(one, list) {
		t.Fatalf("%v, error %d", one, err)
	}
	one[0] = lz.Token{}
	two, _ := lz.Tokens(s)
	if !slices.Equal(two, list) {
		t.Error(two)
	}
}

// P5.2, of any bytes.
func TestTokensOfAnyBytes(t *testing.T) {
	for seed := range uint64(20_000) {
		hold(t, mixed(int(seed%24), seed, 256))
		hold(t, mixed(int(seed%24), seed, 256>>(seed%7)))
	}
}

// P5.2, of many rows of tokens that are right, or nearly so.
func TestTokensOfManyLists(t *testing.T) {
	wrong := map[api.Errno]int{}
	for seed := range uint64(30_000) {
		dice := []byte(mixed(40, seed, 256))
		var list []lz.Token
		n := 0
		for i := 0; i+2 < len(dice) && n < 5+int(dice[0])%40; i += 3 {
			token := lz.Token{B: dice[i+1]}
			if n > 0 && dice[i]%2 == 0 {
				// Now and then one more than there is.
				token = lz.Token{Back: 1 + int(dice[i+1])%n + int(dice[i])/250, Len: 3 + int(dice[i+2])%9}
			}
			list = append(list, token)
			n += max(token.Len, 1)
		}
		s := lz.Print(n-int(dice[1])/200, list)
		hold(t, s)
		_, err := lz.Tokens(s)
		wrong[err]++
	}
	for _, err := range []api.Errno{api.OK, api.ErrRange, api.ErrForm} {
		if wrong[err] < 100 {
			t.Errorf("error %d: only %d lists", err, wrong[err])
		}
	}
}

// P5.2, of right ones of which a bit is turned.
func TestTokensOfHurtBytes(t *testing.T) {
	for _, text := range []string{"aaaaaa", "abcabcabcabd", "the quick brown fox, the quick brown dog", mixed(60, 3, 4)} {
		p, _ := lz.Pack(text)
		for i := range 8 * len(p) {
			hurt := []byte(p)
			hurt[i/8] ^= 1 << (i % 8)
			hold(t, string(hurt))
		}
	}
}
