package dump_test

import (
	"encoding/binary"
	"fmt"
	"slices"
	"strings"
	"testing"

	"signpost/api"
	"signpost/dump"
	"signpost/table"
)

// four: a prefix of four bytes, made by hand.
func four(a, b, c, d byte, n int) api.Prefix {
	return api.Prefix{Addr: [16]byte{a, b, c, d}, Len: n}
}

// six: one of sixteen, of which these bytes come first.
func six(first string, n int) api.Prefix {
	p := api.Prefix{Six: true, Len: n}
	copy(p.Addr[:], first)
	return p
}

// way: a route to a prefix.
func way(p api.Prefix, metric int, seq uint32) api.Route {
	return api.Route{To: p, Metric: metric, Seq: seq}
}

// many: so many routes to unlike prefixes, in order.
func many(n int) []api.Route {
	list := make([]api.Route, n)
	for i := range list {
		list[i] = way(four(20, byte(i>>8), byte(i), 0, 24), i*217, uint32(i)*14_000_000)
	}
	return list
}

// of: a table of routes that may be.
func of(t *testing.T, list ...api.Route) *table.Table {
	t.Helper()
	x, err := table.New(list...)
	if err != api.OK {
		t.Fatalf("%d routes: %d", len(list), err)
	}
	return x
}

// number: a number's bytes, by the library.
func number(n uint64) string { return string(binary.AppendUvarint(nil, n)) }

// longer: a number's bytes, and one more than it must have.
func longer(n uint64) string {
	s := []byte(number(n))
	s[len(s)-1] |= 0x80
	return string(append(s, 0))
}

// row: a route of a dump, as it is told.
type row struct {
	told        uint64
	text        string
	metric, seq uint64
}

// String: its bytes.
func (r row) String() string {
	return number(r.told) + number(uint64(len(r.text))) + r.text + number(r.metric) + number(r.seq)
}

// rows: a dump of these, right or not.
func rows(list ...row) string {
	s := number(uint64(len(list)))
	for _, r := range list {
		s += r.String()
	}
	return s
}

// judge reads a dump by the chapter's words, without the layers below.
type judge struct {
	left string
	err  api.Errno // what is wrong first
}

// wrong keeps what is wrong first.
func (j *judge) wrong(is bool, err api.Errno) {
	if is && j.err == api.OK {
		j.err = err
	}
}

// number is the next one, at most so great.
func (j *judge) number(most uint64, otherwise api.Errno) uint64 {
	n, size := binary.Uvarint([]byte(j.left))
	j.wrong(size == 0 && len(j.left) < 10, api.ErrShort)
	j.wrong(size <= 0 || size > 1 && j.left[size-1] == 0, api.ErrForm)
	if j.err != api.OK {
		return 0
	}
	j.left = j.left[size:]
	j.wrong(n > most, otherwise)
	return n
}

// text is the next one.
func (j *judge) text() string {
	n := j.number(17, api.ErrBig)
	j.wrong(n > uint64(len(j.left)), api.ErrShort)
	if j.err != api.OK {
		return ""
	}
	s := j.left[:n]
	j.left = j.left[n:]
	return s
}

// prefix is the one that has these bytes.
func (j *judge) prefix(s string) api.Prefix {
	j.wrong(s == "", api.ErrForm)
	if j.err != api.OK {
		return api.Prefix{}
	}
	p := api.Prefix{Len: int(s[0])}
	j.wrong(p.Len > 32 && p.Len < 64 || p.Len > 192, api.ErrForm)
	if p.Len >= 64 {
		p = api.Prefix{Six: true, Len: p.Len - 64}
	}
	digits := ""
	for _, b := range []byte(s[1:]) {
		digits += fmt.Sprintf("%08b", b)
	}
	j.wrong(len(digits) < p.Len || len(digits) >= p.Len+8, api.ErrForm)
	j.wrong(j.err == api.OK && strings.Contains(digits[min(p.Len, len(digits)):], "1"), api.ErrForm)
	copy(p.Addr[:], s[1:])
	return p
}

// rank: a prefix as a text, so that texts come in the order of their prefixes.
func rank(p api.Prefix) string { return fmt.Sprintf("%t %x %03d", p.Six, p.Addr, p.Len) }

// judged are the routes of a dump, and what is wrong with it.
func judged(s string) ([]api.Route, api.Errno) {
	j := &judge{left: s}
	n := j.number(300, api.ErrBig)
	var list []api.Route
	ahead := ""
	for i := 0; j.err == api.OK && i < int(n); i++ {
		told := j.number(uint64(len(ahead)), api.ErrForm)
		text := j.text()
		if j.err != api.OK {
			break
		}
		s := ahead[:told] + text
		p := j.prefix(s)
		j.wrong(int(told) < len(ahead) && strings.HasPrefix(s, ahead[:told+1]), api.ErrForm)
		j.wrong(i > 0 && rank(p) <= rank(list[max(i-1, 0)].To), api.ErrOrder)
		metric := j.number(65534, api.ErrArg)
		seq := j.number(1<<32-1, api.ErrBig)
		list = append(list, way(p, int(metric), uint32(seq)))
		ahead = s
	}
	j.wrong(j.left != "", api.ErrForm)
	if j.err != api.OK {
		return nil, j.err
	}
	return list, api.OK
}

// hold holds Read against the judge, and that what it takes is what Print writes of the table.
func hold(t *testing.T, s string) api.Errno {
	t.Helper()
	list, want := judged(s)
	x, err := dump.Read(s)
	if err != want {
		t.Fatalf("%x: error %d, not %d", s, err, want)
	}
	if err != api.OK {
		if x != nil {
			t.Fatalf("%x: error %d, and a table", s, err)
		}
		return err
	}
	if x == nil || !slices.Equal(x.All(), list) {
		t.Fatalf("%x: %v, not %v", s, x.All(), list)
	}
	if again := dump.Print(x); again != s {
		t.Fatalf("%x: written as %x", s, again)
	}
	return api.OK
}

// expectWrong holds what is wrong with a dump, and that the judge says so.
func expectWrong(t *testing.T, s string, want api.Errno) {
	t.Helper()
	if x, err := dump.Read(s); x != nil || err != want {
		t.Errorf("%x: %v, error %d; not %d", s, x, err, want)
	}
	hold(t, s)
}
