package incr_test

import (
	"encoding/binary"
	"fmt"
	"math"
	"slices"
	"strings"
	"testing"

	"signpost/api"
	"signpost/incr"
	"signpost/table"
)

// four: a prefix of four bytes, made by hand.
func four(a, b, c, d byte, n int) api.Prefix {
	return api.Prefix{Addr: [16]byte{a, b, c, d}, Len: n}
}

// six: one of sixteen, of which these bytes come first.
func six(first string, n int) api.Prefix {
	p := api.Prefix{Six: true, Len: n}
	copy(p.Addr[:], first)
	return p
}

// way: a route to a prefix.
func way(p api.Prefix, metric int, seq uint32) api.Route {
	return api.Route{To: p, Metric: metric, Seq: seq}
}

// add, change and withdraw: a change of that kind.
func add(p api.Prefix, metric int, seq uint32) api.Inc {
	return api.Inc{Kind: api.IAdd, Route: way(p, metric, seq)}
}

func change(p api.Prefix, metric int, seq uint32) api.Inc {
	return api.Inc{Kind: api.IChange, Route: way(p, metric, seq)}
}

func withdraw(p api.Prefix) api.Inc {
	return api.Inc{Kind: api.IWithdraw, Route: api.Route{To: p}}
}

// row: changes, one behind the other.
func row(list ...api.Inc) []api.Inc { return list }

// nth: one of many unlike prefixes, in order.
func nth(i int) api.Prefix { return four(20, byte(i>>8), byte(i), 0, 24) }

// routes: so many routes to unlike prefixes, in order.
func routes(n int) []api.Route {
	list := make([]api.Route, n)
	for i := range list {
		list[i] = way(nth(i), i%300*217, uint32(i)*14_000_000)
	}
	return list
}

// adds: so many additions of unlike prefixes, in order.
func adds(n int) []api.Inc {
	var list []api.Inc
	for _, r := range routes(n) {
		list = append(list, api.Inc{Kind: api.IAdd, Route: r})
	}
	return list
}

// of: a table of routes that may be.
func of(t *testing.T, list ...api.Route) *table.Table {
	t.Helper()
	x, err := table.New(list...)
	if err != api.OK {
		t.Fatalf("%d routes: %d", len(list), err)
	}
	return x
}

// wrongPrefixes are some that may not be.
func wrongPrefixes() []api.Prefix {
	return []api.Prefix{
		four(10, 0, 0, 0, -1), four(10, 0, 0, 0, 33), four(10, 1, 0, 0, 8), four(0, 0, 0, 1, 31), four(1, 0, 0, 0, 0), {Addr: [16]byte{4: 1}, Len: 32},
		six("", -1), six("", 129), six("\x20\x01", 15), four(0, 0, 0, 0, math.MinInt), six("", math.MaxInt),
	}
}

// wrongChanges are some that may not be.
func wrongChanges() []api.Inc {
	ten, long := four(10, 0, 0, 0, 8), six("\x20\x01", 128)
	list := []api.Inc{{}}
	for _, p := range wrongPrefixes() {
		list = append(list, add(p, 0, 0), change(p, 1, 2), withdraw(p))
	}
	for _, metric := range []int{-1, 65535, 65536, 1 << 32, math.MinInt, math.MaxInt} {
		list = append(list, add(ten, metric, 0), change(ten, metric, 3), add(long, metric, 3), change(long, metric, 0))
	}
	for _, r := range []api.Route{way(ten, 1, 0), way(ten, 0, 1), way(ten, -1, 0), way(ten, 65534, 0), way(ten, 65535, 0), way(long, 0, math.MaxUint32), way(long, 2, 3)} {
		list = append(list, api.Inc{Kind: api.IWithdraw, Route: r})
	}
	for _, kind := range []int{math.MinInt, -3, -2, -1, 0, 4, 5, 256, 257, 259, 1 + 1<<32, math.MaxInt} {
		list = append(list, api.Inc{Kind: kind, Route: way(ten, 1, 1)}, api.Inc{Kind: kind, Route: way(long, 0, 0)})
	}
	return list
}

// edges are changes that may be, at the ends of what may be.
func edges() []api.Inc {
	var list []api.Inc
	for _, p := range []api.Prefix{{}, {Six: true}, four(10, 0, 0, 0, 7), four(10, 0, 0, 0, 8), four(10, 0, 0, 0, 9), four(255, 255, 255, 255, 32), six("\x20\x01\x80", 17), six(strings.Repeat("\xff", 16), 128)} {
		list = append(list, withdraw(p))
		for _, metric := range []int{0, 1, 127, 128, 65533, 65534} {
			for _, seq := range []uint32{0, 127, 128, 1 << 31, math.MaxUint32} {
				list = append(list, add(p, metric, seq), change(p, metric, seq))
			}
		}
	}
	return list
}

// number: a number's bytes, by the library.
func number(n uint64) string { return string(binary.AppendUvarint(nil, n)) }

// longer: a number's bytes, and one more than it must have.
func longer(n uint64) string {
	s := []byte(number(n))
	s[len(s)-1] |= 0x80
	return string(append(s, 0))
}

// judge reads a row by the chapter's words, without the layers below.
type judge struct {
	left string
	err  api.Errno // what is wrong first
}

// wrong keeps what is wrong first.
func (j *judge) wrong(is bool, err api.Errno) {
	if is && j.err == api.OK {
		j.err = err
	}
}

// number is the next one, at most so great.
func (j *judge) number(most uint64, otherwise api.Errno) uint64 {
	n, size := binary.Uvarint([]byte(j.left))
	j.wrong(size == 0 && len(j.left) < 10, api.ErrShort)
	j.wrong(size <= 0 || size > 1 && j.left[size-1] == 0, api.ErrForm)
	if j.err != api.OK {
		return 0
	}
	j.left = j.left[size:]
	j.wrong(n > most, otherwise)
	return n
}

// bytes are the next ones.
func (j *judge) bytes(n int) []byte {
	j.wrong(n > len(j.left), api.ErrShort)
	if j.err != api.OK {
		return make([]byte, n)
	}
	s := j.left[:n]
	j.left = j.left[n:]
	return []byte(s)
}

// prefix is the next one.
func (j *judge) prefix() api.Prefix {
	first := int(j.bytes(1)[0])
	j.wrong(first > 32 && first < 64 || first > 192, api.ErrForm)
	if j.err != api.OK {
		return api.Prefix{}
	}
	p := api.Prefix{Len: first}
	if first >= 64 {
		p = api.Prefix{Six: true, Len: first - 64}
	}
	n := 0
	for 8*n < p.Len {
		n++
	}
	list := j.bytes(n)
	digits := ""
	for _, b := range list {
		digits += fmt.Sprintf("%08b", b)
	}
	j.wrong(strings.Contains(digits[p.Len:], "1"), api.ErrForm)
	copy(p.Addr[:], list)
	return p
}

// judged are the changes of a row's bytes, and what is wrong with it.
func judged(s string) ([]api.Inc, api.Errno) {
	j := &judge{left: s}
	n := j.number(200, api.ErrBig)
	var list []api.Inc
	for i := 0; j.err == api.OK && i < int(n); i++ {
		kind := int(j.bytes(1)[0])
		j.wrong(kind == 0 || kind > 3, api.ErrForm)
		r := api.Route{To: j.prefix()}
		if kind != 3 {
			r.Metric = int(j.number(65534, api.ErrArg))
			r.Seq = uint32(j.number(1<<32-1, api.ErrBig))
		}
		list = append(list, api.Inc{Kind: kind, Route: r})
	}
	j.wrong(j.left != "", api.ErrForm)
	if j.err != api.OK {
		return nil, j.err
	}
	return list, api.OK
}

// hold holds Read against the judge, and that what it takes is what Print writes of it.
func hold(t *testing.T, s string) api.Errno {
	t.Helper()
	want, wrong := judged(s)
	list, err := incr.Read(s)
	if err != wrong {
		t.Fatalf("%x: error %d, not %d", s, err, wrong)
	}
	if !slices.Equal(list, want) {
		t.Fatalf("%x: %v, error %d; not %v", s, list, err, want)
	}
	if err != api.OK {
		return err
	}
	if again, err := incr.Print(list); again != s || err != api.OK {
		t.Fatalf("%x: written as %x, error %d", s, again, err)
	}
	return api.OK
}

// expectWrong holds what is wrong with a row's bytes, and that the judge says so.
func expectWrong(t *testing.T, s string, want api.Errno) {
	t.Helper()
	if list, err := incr.Read(s); len(list) != 0 || err != want {
		t.Errorf("%x: %v, error %d; not %d", s, list, err, want)
	}
	hold(t, s)
}
