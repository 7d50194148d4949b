package link_test

import (
	"math"
	"math/big"
	"math/rand"
	"slices"
	"testing"

	"signpost/api"
	"signpost/link"
)

// waiting is a datagram on the way, by the judge.
type waiting struct {
	text string
	late bool
}

// judge is a link by the chapter's words: all that is on the way, in one row.
type judge struct{ row []waiting }

// unlate: the place behind all others but those that are late.
func (j *judge) unlate() int {
	for i, w := range j.row {
		if w.late {
			return i
		}
	}
	return len(j.row)
}

func (j *judge) send(s string, f api.Fate) {
	if f.Kind == 1 {
		return
	}
	if f.Kind == 3 {
		j.row = append(j.row, waiting{s, true})
		return
	}
	at := j.unlate()
	j.row = slices.Insert(j.row, at, waiting{text: hurt(s, f)})
	if f.Kind == 2 {
		j.row = slices.Insert(j.row, at, waiting{text: s})
	}
	for i := range j.row {
		j.row[i].late = false
	}
}

func (j *judge) arrive() (string, bool) {
	if len(j.row) == 0 {
		return "", false
	}
	s := j.row[0].text
	j.row = j.row[1:]
	return s, true
}

func (j *judge) all() []string {
	var list []string
	for _, w := range j.row {
		list = append(list, w.text)
	}
	j.row = nil
	return list
}

// modulo: n, or 2^64 and n, where it is below 0, modulo so many.
func modulo(n, many int) int {
	b := big.NewInt(int64(n))
	if n < 0 {
		b.Add(b, new(big.Int).Lsh(big.NewInt(1), 64))
	}
	return int(b.Mod(b, big.NewInt(int64(many))).Int64())
}

// hurt: a fate's bytes, by a plain reading of the words.
func hurt(s string, f api.Fate) string {
	if len(s) == 0 {
		return ""
	}
	if f.Kind == 5 {
		list := []byte{}
		for i := range modulo(f.N, len(s)) {
			list = append(list, s[i])
		}
		return string(list)
	}
	if f.Kind != 4 {
		return s
	}
	row := make([]bool, 8*len(s))
	for k := range row {
		row[k] = s[k/8]&(1<<(k%8)) != 0
	}
	from := modulo(f.N, len(row))
	for k := from; k < len(row) && k < from+32; k++ {
		row[k] = row[k] != (f.Bits&(1<<(k-from)) != 0)
	}
	list := make([]byte, len(s))
	for k, one := range row {
		if one {
			list[k/8] |= 1 << (k % 8)
		}
	}
	return string(list)
}

// fair: no n in a row, asked for each row of n.
func fair(list []api.Fate, n int) bool {
	if n < 1 {
		return len(list) == 0
	}
	for i := 0; n <= len(list)-i; i++ {
		bad := 0
		for _, f := range list[i : i+n] {
			if f.Kind == 1 || f.Kind == 4 || f.Kind == 5 {
				bad++
			}
		}
		if bad == n {
			return false
		}
	}
	return true
}

// placed: the order in which texts come that are sent one behind the other: each by the number of the one that it stands behind.
func placed(texts []string, fates []api.Fate) []string {
	type place struct{ behind, number int }
	var places []place
	for i, f := range fates {
		p := place{i, i}
		if f.Kind == 3 {
			p.behind = i + 1
			for p.behind < len(fates) && (fates[p.behind].Kind == 1 || fates[p.behind].Kind == 3) {
				p.behind++
			}
			p.number += len(fates)
		}
		if f.Kind == 2 {
			places = append(places, p)
		}
		if f.Kind != 1 {
			places = append(places, p)
		}
	}
	slices.SortFunc(places, func(a, b place) int {
		if a.behind != b.behind {
			return a.behind - b.behind
		}
		return a.number - b.number
	})
	var list []string
	for _, p := range places {
		i := p.number % len(fates)
		list = append(list, hurt(texts[i], fates[i]))
	}
	return list
}

// kinds are those that there are, and some that there are not, which partly are in their lowest bits.
func kinds() []int { return append([]int{0, 1, 2, 3, 4, 5}, wrongKinds()...) }

func wrongKinds() []int {
	return []int{math.MinInt, math.MinInt + 4, -1 << 32, -1<<32 + 5, -5, -4, -3, -2, -1, 6, 7, 8, 9, 12, 13, 255, 256, 257, 258, 259, 260, 261, 1 << 32, 1<<32 + 1, 1<<32 + 2, 1<<32 + 3, 1<<32 + 4, 1<<32 + 5, math.MaxInt}
}

// numbers: N of a fate, where there are so many bits or bytes: around 0, around how many there are, and far off.
func numbers(many int) []int {
	list := []int{math.MinInt, math.MinInt + 1, math.MinInt + many, math.MinInt32, -1 << 32, -many - 1, -many, -many + 1, -9, -8, -7, -2, -1, 0, 1, 2, 7, 8, 9,
		many/2 - 1, many / 2, many - 33, many - 32, many - 31, many - 8, many - 2, many - 1, many, many + 1, many + 7, 2*many - 1, 2 * many, 2*many + 1, 1 << 32, 1<<32 + 1, 1 << 62, math.MaxInt - many, math.MaxInt - 1, math.MaxInt}
	return list
}

// texts: n of them, unlike each other.
func texts(n int) []string {
	list := make([]string, n)
	for i := range list {
		list[i] = string([]byte{byte('a' + i%26), byte(i / 26), 'z'})
	}
	return list
}

// text: so many bytes, any ones, the same each time.
func text(n int) string {
	list := make([]byte, n)
	rand.New(rand.NewSource(int64(n))).Read(list)
	return string(list)
}

// of: a fate of a kind, of which nothing else is told.
func of(kind int) api.Fate { return api.Fate{Kind: kind} }

// send hands a datagram to both, and holds how many there are behind it.
func send(t *testing.T, l *link.Link, j *judge, s string, f api.Fate) {
	t.Helper()
	l.Send(s, f)
	j.send(s, f)
	expectLen(t, l, j)
}

func expectLen(t *testing.T, l *link.Link, j *judge) {
	t.Helper()
	if got := l.Len(); got != len(j.row) {
		t.Fatalf("%d on the way, not %d", got, len(j.row))
	}
}

// arrive holds that the one comes that the judge tells, or none.
func arrive(t *testing.T, l *link.Link, j *judge) {
	t.Helper()
	got, ok := l.Arrive()
	want, there := j.arrive()
	if got != want || ok != there {
		t.Fatalf("%q, %t; not %q, %t", got, ok, want, there)
	}
	expectLen(t, l, j)
}

// all holds that all come as the judge tells, and that none is left.
func all(t *testing.T, l *link.Link, j *judge) {
	t.Helper()
	if got, want := l.All(), j.all(); !slices.Equal(got, want) {
		t.Fatalf("%q, not %q", got, want)
	}
	expectEmpty(t, l)
}

// expectEmpty holds that none is on the way.
func expectEmpty(t *testing.T, l *link.Link) {
	t.Helper()
	if s, ok := l.Arrive(); s != "" || ok || l.Len() != 0 || len(l.All()) != 0 {
		t.Fatalf("%q, %t, %d on the way", s, ok, l.Len())
	}
}

// expectRow holds in which order texts come that are sent with these kinds of fates: all at once, and one by one.
func expectRow(t *testing.T, list []string, row []int, want ...string) {
	t.Helper()
	l, j := link.New(), &judge{}
	one := link.New()
	for i, kind := range row {
		send(t, l, j, list[i], of(kind))
		one.Send(list[i], of(kind))
	}
	if got := l.All(); !slices.Equal(got, want) {
		t.Errorf("%v: %q, not %q", row, got, want)
	}
	expectEmpty(t, l)
	for i, s := range want {
		if got, ok := one.Arrive(); got != s || !ok || one.Len() != len(want)-i-1 {
			t.Errorf("%v: %d: %q, %t, %d left; not %q", row, i, got, ok, one.Len(), s)
		}
	}
	expectEmpty(t, one)
}
