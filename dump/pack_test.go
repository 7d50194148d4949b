package dump_test

import (
	"math"
	"strings"
	"testing"

	"signpost/api"
	"signpost/dump"
	"signpost/lz"
	"signpost/table"
)

// packed: bytes of any kind, packed.
func packed(t *testing.T, s string) string {
	t.Helper()
	p, err := lz.Pack(s)
	if err != api.OK {
		t.Fatalf("%d bytes: error %d", len(s), err)
	}
	return p
}

// expectUnpackWrong holds what is wrong with packed bytes.
func expectUnpackWrong(t *testing.T, s string, want api.Errno) {
	t.Helper()
	if x, err := dump.Unpack(s); x != nil || err != want {
		t.Errorf("%d bytes, %.20x: %v, error %d; not %d", len(s), s, x, err, want)
	}
}

// P7.2: Pack is lz.Pack of the dump, and Unpack takes it back.
func TestPack(t *testing.T) {
	var wide []api.Route
	for i := range 300 {
		p := six(strings.Repeat(string([]byte{byte(i >> 1), byte(i * 7)}), 8), 128)
		wide = append(wide, way(p, 65534-i*i/2, math.MaxUint32-uint32(i*i*i)))
	}
	for _, x := range []*table.Table{
		nil, {}, of(t),
		of(t, way(four(10, 0, 0, 0, 8), 1, 0), way(four(10, 1, 0, 0, 16), 2, 0)),
		of(t, many(300)...), of(t, wide...),
	} {
		s, err := dump.Pack(x)
		if err != api.OK || s != packed(t, dump.Print(x)) {
			t.Errorf("%d routes: %d bytes, error %d", x.Len(), len(s), err)
		}
		if y, err := dump.Unpack(s); err != api.OK || y == nil || !table.Same(x, y) {
			t.Errorf("%d routes: error %d", x.Len(), err)
		}
	}
	few, _ := dump.Pack(of(t, many(300)...))
	if whole := dump.Print(of(t, many(300)...)); len(few) >= len(whole) {
		t.Errorf("%d bytes are packed to %d", len(whole), len(few))
	}
}

// P7.2: Unpack takes any packed bytes of a dump, not those of Pack alone.
func TestUnpackOfOtherTokens(t *testing.T) {
	s := dump.Print(of(t, many(40)...))
	var list []lz.Token
	for _, b := range []byte(s) {
		list = append(list, lz.Token{B: b})
	}
	p := lz.Print(len(s), list)
	if own, _ := dump.Pack(of(t, many(40)...)); own == p {
		t.Fatal("they are Pack's")
	}
	if x, err := dump.Unpack(p); err != api.OK || !table.Same(x, of(t, many(40)...)) {
		t.Errorf("error %d", err)
	}
}

// P7.2: each error of layer 5, also where bytes are no dump either.
func TestUnpackOfWhatIsNotPacked(t *testing.T) {
	whole, _ := dump.Pack(of(t, many(300)...))
	for n := range len(whole) {
		expectUnpackWrong(t, whole[:n], api.ErrShort)
	}
	a := lz.Token{B: 'a'}
	for _, c := range []struct {
		s    string
		want api.Errno
	}{
		{"", api.ErrShort},
		{strings.Repeat("\x00", 7), api.ErrShort},
		{strings.Repeat("\x00", 8), api.ErrForm},
		{lz.Print(65537, nil), api.ErrBig},
		{lz.Print(math.MaxInt, nil), api.ErrBig},
		{lz.Print(9, []lz.Token{a, {Back: 2, Len: 8}}), api.ErrRange},
		{lz.Print(9, []lz.Token{{Back: 1, Len: 9}}), api.ErrRange},
		{lz.Print(9, []lz.Token{a, {Back: 1, Len: 9}}), api.ErrForm},
		{whole + "\x00", api.ErrForm},
		{whole + "\x01", api.ErrForm},
		{packed(t, "\x00") + "\x00", api.ErrForm},
	} {
		expectUnpackWrong(t, c.s, c.want)
	}
}

// P7.2: Read's errors, each one.
func TestUnpackOfWhatIsNoDump(t *testing.T) {
	for s, want := range map[string]api.Errno{
		"":                                   api.ErrShort,
		"\x01":                               api.ErrShort,
		number(301):                          api.ErrBig,
		"\x80\x00":                           api.ErrForm,
		"\x01\x01":                           api.ErrForm,
		"\x00\x00":                           api.ErrForm,
		rows(row{0, "\x21", 1, 0}):           api.ErrForm,
		rows(ten(), row{0, "\x08", 1, 0}):    api.ErrForm,
		rows(row{0, "\x08\x0a", 65535, 0}):   api.ErrArg,
		rows(ten(), row{2, "", 1, 0}):        api.ErrOrder,
		rows(row{0, "\x08\x0a", 1, 1 << 32}): api.ErrBig,
	} {
		expectUnpackWrong(t, packed(t, s), want)
	}
}

// P7.2: bytes that come to 65536 are read; those that come to more aren't, whatever they are.
func TestUnpackOfManyBytes(t *testing.T) {
	noughts := strings.Repeat("\x00", 65536)
	metric := rows(row{0, "\x08\x0a", 65535, 0})
	order := rows(ten(), row{2, "", 1, 0})
	for s, want := range map[string]api.Errno{noughts: api.ErrForm, metric + noughts: api.ErrArg, order + noughts: api.ErrOrder} {
		expectUnpackWrong(t, packed(t, s[:65535]), want)
		expectUnpackWrong(t, packed(t, s[:65536]), want)
		var list []lz.Token
		for _, b := range []byte(s[:100]) {
			list = append(list, lz.Token{B: b})
		}
		expectUnpackWrong(t, lz.Print(65536, append(list, lz.Token{Back: 1, Len: 65436})), want)
		expectUnpackWrong(t, lz.Print(65537, append(list, lz.Token{Back: 1, Len: 65437})), api.ErrBig)
	}
}
