package session_test

import (
	"math"
	"math/big"
	"math/rand"
	"slices"
	"testing"

	"signpost/api"
	"signpost/session"
)

// judge is a pipe by the chapters' words: chunks go by their numbers, and no datagram is made.
type judge struct {
	text    string
	sizes   []int   // how many bytes each chunk has
	sent    [][]int // of each chunk all the ticks at which it was
	known   []bool  // which are there, as far as the sender was told
	there   []bool  // which are there
	ticks   int
	lost    bool
	dropped int
}

// judgeOf: of a text, in chunks of so many bytes.
func judgeOf(text string, size int) *judge {
	j := &judge{text: text}
	for left := len(text); left > 0 || j.sizes == nil; left -= size {
		j.sizes = append(j.sizes, min(left, size))
	}
	n := len(j.sizes)
	j.sent, j.known, j.there = make([][]int, n), make([]bool, n), make([]bool, n)
	return j
}

// all: is each one there?
func all(list []bool) bool { return !slices.Contains(list, false) }

// due: the chunks of the window that the sender doesn't know to be there, and that weren't sent at this tick or one of the three ahead.
func (j *judge) due() []int {
	var list []int
	first := slices.Index(j.known, false)
	for i := range j.sizes {
		fresh := false
		for back := range 4 {
			fresh = fresh || slices.Contains(j.sent[i], j.ticks-back)
		}
		if first <= i && i < first+8 && !j.known[i] && !fresh {
			list = append(list, i)
		}
	}
	return list
}

// tick: the chunks that are sent.
func (j *judge) tick() ([]int, api.Errno) {
	if all(j.known) {
		return nil, api.ErrDone
	}
	if j.lost {
		return nil, api.ErrLost
	}
	j.ticks++
	list := j.due()
	for _, i := range list {
		j.lost = j.lost || len(j.sent[i]) == 8
	}
	if j.lost {
		return nil, api.ErrLost
	}
	for _, i := range list {
		j.sent[i] = append(j.sent[i], j.ticks)
	}
	return list, api.OK
}

// coming is a datagram that comes, by its number among those of a tick; is it hurt?
type coming struct {
	number int
	hurt   bool
}

// comes: what comes of datagrams of so many bytes, one behind the other.
func comes(sizes []int, fates []api.Fate) []coming {
	var list, late []coming
	for i, size := range sizes {
		f := api.Fate{}
		if i < len(fates) {
			f = fates[i]
		}
		if f.Kind == 1 {
			continue
		}
		if f.Kind == 3 {
			late = append(late, coming{i, false})
			continue
		}
		list = append(list, coming{i, hurts(f, size)})
		if f.Kind == 2 {
			list = append(list, coming{i, false})
		}
		list = append(list, late...)
		late = nil
	}
	return append(list, late...)
}

// hurts: does a fate make other bytes of so many, of which there are some?
func hurts(f api.Fate, size int) bool {
	if f.Kind == 5 {
		return true
	}
	from := modulo(f.N, 8*size)
	turned := false
	for k := range 32 {
		turned = turned || f.Bits&(1<<k) != 0 && from+k < 8*size
	}
	return f.Kind == 4 && turned
}

// modulo: n, or 2^64 and n, where it is below 0, modulo so many.
func modulo(n, many int) int {
	b := big.NewInt(int64(n))
	if n < 0 {
		b.Add(b, new(big.Int).Lsh(big.NewInt(1), 64))
	}
	return int(b.Mod(b, big.NewInt(int64(many))).Int64())
}

// hear: the sender is told all below the first one that isn't there, and 16 behind that.
func (j *judge) hear() {
	base := slices.Index(append(slices.Clone(j.there), false), false)
	for i, there := range j.there {
		if there && i <= base+16 {
			j.known[i] = true
		}
	}
}

func (j *judge) step(out, back []api.Fate) api.Errno {
	list, err := j.tick()
	var sizes []int
	for _, i := range list {
		sizes = append(sizes, 19+j.sizes[i])
	}
	for _, c := range comes(sizes, out) {
		if c.hurt {
			j.dropped++
		} else {
			j.there[list[c.number]] = true
		}
	}
	for _, c := range comes([]int{19 + 2}, back) {
		if c.hurt {
			j.dropped++
		} else {
			j.hear()
		}
	}
	return err
}

func (j *judge) data() (string, api.Errno) {
	if all(j.there) {
		return j.text, api.OK
	}
	return "", api.ErrState
}

// size: of a chunk.
func size(mtu int) int { return min(mtu-19, 1000) }

// made: a pipe that sends a text, and its judge.
func made(t *testing.T, number, epoch int, s string, mtu int) (*session.Pipe, *judge) {
	t.Helper()
	p, err := session.New(number, epoch, s, mtu)
	if p == nil || err != api.OK {
		t.Fatalf("session %d, epoch %d, %d bytes, mtu %d: error %d", number, epoch, len(s), mtu, err)
	}
	j := judgeOf(s, size(mtu))
	hold(t, p, j)
	return p, j
}

// of: a pipe that sends n chunks of at most 45 bytes, the last one of fewer, and its judge.
func of(t *testing.T, n int) (*session.Pipe, *judge) {
	t.Helper()
	p, j := made(t, 11, 22, text(45*n-7), 64)
	if len(j.sizes) != n {
		t.Fatalf("%d chunks, not %d", len(j.sizes), n)
	}
	return p, j
}

// hold holds all that a pipe tells against its judge.
func hold(t *testing.T, p *session.Pipe, j *judge) {
	t.Helper()
	if p.Done() != all(j.known) || p.Dropped() != j.dropped {
		t.Fatalf("tick %d: done %t, %d dropped; not %t, %d", j.ticks, p.Done(), p.Dropped(), all(j.known), j.dropped)
	}
	got, err := p.Data()
	if want, wrong := j.data(); got != want || err != wrong {
		t.Fatalf("tick %d: %d bytes, error %d; not %d bytes, error %d", j.ticks, len(got), err, len(want), wrong)
	}
}

// step is a tick of both, and holds what comes of it.
func step(t *testing.T, p *session.Pipe, j *judge, out, back []api.Fate) api.Errno {
	t.Helper()
	err, want := p.Step(out, back), j.step(out, back)
	if err != want {
		t.Fatalf("tick %d: %v, %v: error %d, not %d", j.ticks, out, back, err, want)
	}
	hold(t, p, j)
	return err
}

// restart lets the receiver begin anew, which isn't to be seen.
func restart(t *testing.T, p *session.Pipe, j *judge) {
	t.Helper()
	if err := p.Restart(); err != api.OK {
		t.Fatalf("tick %d: error %d", j.ticks, err)
	}
	hold(t, p, j)
}

// expectStep holds what a tick answers, by hand and by the judge.
func expectStep(t *testing.T, p *session.Pipe, j *judge, out, back []api.Fate, want api.Errno) {
	t.Helper()
	if err := step(t, p, j, out, back); err != want {
		t.Fatalf("tick %d: error %d, not %d", j.ticks, err, want)
	}
}

// expectTold holds what a pipe tells, by hand: is the text there, does the sender know, and how many were dropped?
func expectTold(t *testing.T, p *session.Pipe, there, done bool, dropped int) {
	t.Helper()
	_, err := p.Data()
	if (err == api.OK) != there || p.Done() != done || p.Dropped() != dropped {
		t.Fatalf("error %d, done %t, %d dropped; not %t, %t, %d", err, p.Done(), p.Dropped(), there, done, dropped)
	}
}

// expectEnd holds that the text is there behind so many ticks more, all delivered, and no sooner.
func expectEnd(t *testing.T, p *session.Pipe, j *judge, ticks int) {
	t.Helper()
	for range ticks {
		if p.Done() {
			t.Fatalf("done behind %d ticks", j.ticks)
		}
		expectStep(t, p, j, nil, nil, api.OK)
	}
	if got, err := p.Data(); !p.Done() || got != j.text || err != api.OK {
		t.Fatalf("done %t, %d bytes, error %d; not %d bytes", p.Done(), len(got), err, len(j.text))
	}
	expectStep(t, p, j, nil, nil, api.ErrDone)
}

// fates: n of a kind, each with the same N and Bits.
func fates(n int, f api.Fate) []api.Fate { return slices.Repeat([]api.Fate{f}, n) }

// kind: a fate of which nothing else is told.
func kind(k int) api.Fate { return api.Fate{Kind: k} }

// flip: one that turns the lowest bit of the n-th byte.
func flip(n int) api.Fate { return api.Fate{Kind: api.Flip, N: 8 * n, Bits: 1} }

// cut: one that leaves the first n bytes.
func cut(n int) api.Fate { return api.Fate{Kind: api.Cut, N: n} }

// bad are fates behind which nothing that is right comes; whole some behind which what was sent does.
func bad() []api.Fate {
	return []api.Fate{kind(api.Drop), flip(0), flip(20), {Kind: api.Flip, N: -1, Bits: math.MaxUint32}, cut(0), cut(1), cut(20), cut(-1)}
}

func whole() []api.Fate {
	list := []api.Fate{{}, kind(api.Twice), kind(api.Late), {Kind: api.Flip, N: 3}, {Kind: api.Twice, N: 3, Bits: 1}, {Kind: api.Late, N: 3, Bits: 1}, {Kind: api.Deliver, N: 3, Bits: 1}}
	for _, k := range []int{math.MinInt, -1, 6, 256 + 1, 1<<32 + 4, math.MaxInt} {
		list = append(list, api.Fate{Kind: k, N: 1, Bits: 1})
	}
	return list
}

// text: so many bytes, any ones, the same each time.
func text(n int) string {
	list := make([]byte, n)
	rand.New(rand.NewSource(int64(n))).Read(list)
	return string(list)
}

// counts: how many chunks: the fewest, the most, and those around a window.
func counts() []int { return []int{1, 2, 7, 8, 9, 10, 15, 16, 17, 20, 24, 25, 255, 256} }

// rightNumbers are some of a session or an epoch; wrongNumbers some of none, which partly are in their lowest bits.
func rightNumbers() []int {
	return []int{0, 1, 2, 255, 65535, 65536, math.MaxInt32, math.MaxInt32 + 1, math.MaxUint32 - 1, math.MaxUint32}
}

func wrongNumbers() []int {
	return []int{math.MinInt, math.MinInt + 1, math.MinInt32, -1 << 32, -1<<32 + 1, -2, -1, 1 << 32, 1<<32 + 1, 1 << 33, 1 << 62, math.MaxInt - 1, math.MaxInt}
}
