package digest_test

import (
	"encoding/binary"
	"fmt"
	"math"
	"math/big"
	"slices"
	"strconv"
	"strings"
	"testing"

	"signpost/api"
	"signpost/digest"
	"signpost/table"
)

// four: a prefix of four bytes, made by hand.
func four(a, b, c, d byte, n int) api.Prefix {
	return api.Prefix{Addr: [16]byte{a, b, c, d}, Len: n}
}

// six: one of sixteen, of which these bytes come first.
func six(first string, n int) api.Prefix {
	p := api.Prefix{Six: true, Len: n}
	copy(p.Addr[:], first)
	return p
}

// way: a route to a prefix.
func way(p api.Prefix, metric int, seq uint32) api.Route {
	return api.Route{To: p, Metric: metric, Seq: seq}
}

// add, change and withdraw: a change of that kind.
func add(r api.Route) api.Inc { return api.Inc{Kind: api.IAdd, Route: r} }

func change(r api.Route) api.Inc { return api.Inc{Kind: api.IChange, Route: r} }

func withdraw(p api.Prefix) api.Inc {
	return api.Inc{Kind: api.IWithdraw, Route: api.Route{To: p}}
}

// in: one of many unlike prefixes of a range.
func in(bucket, i int) api.Prefix {
	if bucket == 16 {
		return six(string([]byte{0x20, byte(i >> 8), byte(i)}), 24)
	}
	return four(byte(bucket<<4), byte(i>>8), byte(i), 0, 24)
}

// routes: so many routes to unlike prefixes of a range, in order.
func routes(bucket, n int) []api.Route {
	list := make([]api.Route, n)
	for i := range list {
		list[i] = way(in(bucket, i), i%300*217, uint32(i)*14_000_000)
	}
	return list
}

// spread: so many routes over all ranges, in order.
func spread(n int) []api.Route {
	var list []api.Route
	for bucket := range 17 {
		many := n / 17
		if bucket < n%17 {
			many++
		}
		list = append(list, routes(bucket, many)...)
	}
	return list
}

// of: a table of routes that may be.
func of(t *testing.T, list ...api.Route) *table.Table {
	t.Helper()
	x, err := table.New(list...)
	if err != api.OK {
		t.Fatalf("%d routes: %d", len(list), err)
	}
	return x
}

// edgePrefixes are some at the ends of what may be.
func edgePrefixes() []api.Prefix {
	return []api.Prefix{
		{}, four(0, 0, 0, 0, 32), four(10, 0, 0, 0, 7), four(10, 0, 0, 0, 8), four(10, 0, 0, 0, 9), four(15, 255, 255, 255, 32), four(16, 0, 0, 0, 4), four(240, 0, 0, 0, 4), four(255, 255, 255, 255, 32),
		{Six: true}, six("", 128), six("\x0a", 8), six("\x20\x01\x80", 17), six(strings.Repeat("\xff", 16), 128),
	}
}

// edges are routes that may be, at the ends of what may be.
func edges() []api.Route {
	var list []api.Route
	for _, p := range edgePrefixes() {
		for _, metric := range []int{0, 1, 255, 256, 65533, 65534} {
			for _, seq := range []uint32{0, 1, 255, 256, 1 << 31, math.MaxUint32} {
				list = append(list, way(p, metric, seq))
			}
		}
	}
	return list
}

// wrongRoutes are some that may not be, by their prefix or by their Metric.
func wrongRoutes() []api.Route {
	var list []api.Route
	for _, p := range []api.Prefix{
		four(10, 0, 0, 0, -1), four(10, 0, 0, 0, 33), four(10, 1, 0, 0, 8), four(200, 0, 0, 1, 31), four(1, 0, 0, 0, 0), {Addr: [16]byte{4: 1}, Len: 32},
		six("", -1), six("", 129), six("\x20\x01", 15), four(0, 0, 0, 0, math.MinInt), six("", math.MaxInt),
	} {
		list = append(list, way(p, 0, 0), way(p, 7, 8))
	}
	for _, metric := range []int{-1, 65535, 65536, math.MinInt, math.MaxInt} {
		list = append(list, way(four(10, 0, 0, 0, 8), metric, 3), way(four(200, 0, 0, 0, 8), metric, 0), way(six("\x0a", 8), metric, 4))
	}
	return list
}

// whole is 2^64, modulo which marks and their sums are.
var whole = new(big.Int).Lsh(big.NewInt(1), 64)

// big64: a number in digits of sixteen.
func big64(s string) *big.Int {
	n, _ := new(big.Int).SetString(s, 16)
	return n
}

// mixJudged: mix by the chapter's words, with numbers that have no end.
func mixJudged(x *big.Int) *big.Int {
	shifted := func(x *big.Int, n uint) *big.Int { return new(big.Int).Xor(x, new(big.Int).Rsh(x, n)) }
	times := func(x *big.Int, s string) *big.Int {
		return new(big.Int).Mod(new(big.Int).Mul(x, big64(s)), whole)
	}
	x = new(big.Int).Mod(new(big.Int).Add(x, big64("9e3779b97f4a7c15")), whole)
	x = times(shifted(x, 30), "bf58476d1ce4e5b9")
	x = times(shifted(x, 27), "94d049bb133111eb")
	return shifted(x, 31)
}

// prefixBytes: a prefix's bytes, of one that may be.
func prefixBytes(p api.Prefix) []byte {
	first := p.Len
	if p.Six {
		first += 64
	}
	n := p.Len / 8
	if p.Len%8 > 0 {
		n++
	}
	return append([]byte{byte(first)}, p.Addr[:n]...)
}

// markJudged: the mark of a route that may be.
func markJudged(r api.Route) uint64 {
	list := prefixBytes(r.To)
	list = binary.BigEndian.AppendUint64(list, uint64(r.Metric))
	list = binary.BigEndian.AppendUint64(list, uint64(r.Seq))
	x := new(big.Int)
	for _, b := range list {
		x = mixJudged(x.Xor(x, big.NewInt(int64(b))))
	}
	return x.Uint64()
}

// bucketJudged: the range, read from the address's digits of two.
func bucketJudged(p api.Prefix) int {
	if p.Six {
		return 16
	}
	n, _ := strconv.ParseInt(fmt.Sprintf("%08b", p.Addr[0])[:4], 2, 0)
	return int(n)
}

// allJudged: the digests of some routes.
func allJudged(list []api.Route) []digest.Digest {
	var all []digest.Digest
	for bucket := range 17 {
		n, sum := 0, new(big.Int)
		for _, r := range list {
			if bucketJudged(r.To) == bucket {
				n++
				sum.Add(sum, new(big.Int).SetUint64(markJudged(r)))
			}
		}
		all = append(all, digest.Digest{N: n, Sum: sum.Mod(sum, whole).Uint64()})
	}
	return all
}

// partJudged: the routes of a range, and all others.
func partJudged(list []api.Route, bucket int) (part, others []api.Route) {
	for _, r := range list {
		if bucketJudged(r.To) == bucket {
			part = append(part, r)
		} else {
			others = append(others, r)
		}
	}
	return part, others
}

// number: a number's bytes, by the library.
func number(n uint64) string { return string(binary.AppendUvarint(nil, n)) }

// longer: a number's bytes, and one more than it must have.
func longer(n uint64) string {
	s := []byte(number(n))
	s[len(s)-1] |= 0x80
	return string(append(s, 0))
}

// printed: digests as bytes, right or not.
func printed(list ...digest.Digest) string {
	s := ""
	for _, d := range list {
		s += number(uint64(max(d.N, 0))) + number(d.Sum)
	}
	return s
}

// judge takes bytes apart by the chapter's words, without the layers below.
type judge struct {
	left string
	err  api.Errno // what is wrong first
}

// wrong keeps what is wrong first.
func (j *judge) wrong(is bool, err api.Errno) {
	if is && j.err == api.OK {
		j.err = err
	}
}

// number is the next one, at most so great.
func (j *judge) number(most uint64) uint64 {
	n, size := binary.Uvarint([]byte(j.left))
	j.wrong(size == 0 && len(j.left) < 10, api.ErrShort)
	j.wrong(size <= 0 || size > 1 && j.left[size-1] == 0, api.ErrForm)
	if j.err != api.OK {
		return 0
	}
	j.left = j.left[size:]
	j.wrong(n > most, api.ErrBig)
	return n
}

// judged are the digests of bytes, and what is wrong with them.
func judged(s string) ([]digest.Digest, api.Errno) {
	j := &judge{left: s}
	var list []digest.Digest
	for len(list) < 17 {
		n := j.number(300)
		list = append(list, digest.Digest{N: int(n), Sum: j.number(math.MaxUint64)})
	}
	j.wrong(j.left != "", api.ErrForm)
	if j.err != api.OK {
		return nil, j.err
	}
	return list, api.OK
}

// hold holds Read against the judge, and that what it takes is what Print writes of it.
func hold(t *testing.T, s string) api.Errno {
	t.Helper()
	want, wrong := judged(s)
	list, err := digest.Read(s)
	if err != wrong || !slices.Equal(list, want) {
		t.Fatalf("%x: %v, error %d; not %v, error %d", s, list, err, want, wrong)
	}
	if again := digest.Print(list); err == api.OK && again != s {
		t.Fatalf("%x: written as %x", s, again)
	}
	return err
}

// expectWrong holds what is wrong with bytes, and that the judge says so.
func expectWrong(t *testing.T, s string, want api.Errno) {
	t.Helper()
	if list, err := digest.Read(s); len(list) != 0 || err != want {
		t.Errorf("%x: %v, error %d; not %d", s, list, err, want)
	}
	hold(t, s)
}
