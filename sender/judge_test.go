package sender_test

import (
	"math"
	"math/rand"
	"slices"
	"strconv"
	"testing"

	"signpost/api"
	"signpost/sack"
	"signpost/sender"
)

// judge is a sender by the chapter's words.
type judge struct {
	session, epoch int
	chunks         []string
	there          []bool
	sent           [][]int // of each chunk all the ticks at which it was
	ticks          int
	lost           bool
}

// all: are they there?
func (j *judge) all() bool { return !slices.Contains(j.there, false) }

// due: the chunks of the window that aren't there, and weren't sent at this tick or one of the three ahead.
func (j *judge) due() []int {
	var list []int
	first := slices.Index(j.there, false)
	for i := range j.chunks {
		fresh := false
		for back := range 4 {
			fresh = fresh || slices.Contains(j.sent[i], j.ticks-back)
		}
		if first <= i && i < first+8 && !j.there[i] && !fresh {
			list = append(list, i)
		}
	}
	return list
}

// frame: of a chunk.
func (j *judge) frame(i int) api.Frame {
	return api.Frame{Kind: 1, Session: j.session, Epoch: j.epoch, Index: i, Total: len(j.chunks), Data: j.chunks[i]}
}

func (j *judge) tick() ([]api.Frame, api.Errno) {
	if j.all() {
		return nil, api.ErrDone
	}
	if j.lost {
		return nil, api.ErrLost
	}
	j.ticks++
	due := j.due()
	for _, i := range due {
		if len(j.sent[i]) == 8 {
			j.lost = true
			return nil, api.ErrLost
		}
	}
	var list []api.Frame
	for _, i := range due {
		j.sent[i] = append(j.sent[i], j.ticks)
		list = append(list, j.frame(i))
	}
	return list, api.OK
}

func (j *judge) ack(f api.Frame) api.Errno {
	if f.Kind != 2 {
		return api.ErrArg
	}
	if f.Session != j.session {
		return api.ErrSession
	}
	if f.Epoch != j.epoch {
		return api.ErrEpoch
	}
	if f.Total != len(j.chunks) || f.Index < 0 || f.Index > len(j.chunks) {
		return api.ErrIndex
	}
	for i := range f.Index {
		j.there[i] = true
	}
	for i := range 8 * len(f.Data) {
		if at := f.Index + 1 + i; at < len(j.chunks) && f.Data[i/8]&(1<<(i%8)) != 0 {
			j.there[at] = true
		}
	}
	return api.OK
}

func (j *judge) err() api.Errno {
	switch {
	case j.lost:
		return api.ErrLost
	case j.all():
		return api.ErrDone
	default:
		return api.OK
	}
}

// texts: n chunks, unlike each other.
func texts(n int) []string {
	list := make([]string, n)
	for i := range list {
		list[i] = "chunk " + strconv.Itoa(i)
	}
	return list
}

// text: so many bytes, any ones, the same each time.
func text(n int) string {
	list := make([]byte, n)
	rand.New(rand.NewSource(int64(n))).Read(list)
	return string(list)
}

// sizes are the least and the greatest, and those around a window, and a byte.
func sizes() []int { return []int{1, 2, 3, 6, 7, 8, 9, 10, 15, 16, 17, 20, 255, 256} }

// rightNumbers are some of a session or an epoch; wrongNumbers some of none, which partly are in their lowest bits.
func rightNumbers() []int {
	return []int{0, 1, 2, 255, 65535, 65536, math.MaxInt32, math.MaxInt32 + 1, math.MaxUint32 - 1, math.MaxUint32}
}

func wrongNumbers() []int {
	return []int{math.MinInt, math.MinInt + 1, math.MinInt32, -1 << 32, -1<<32 + 1, -2, -1, 1 << 32, 1<<32 + 1, 1 << 33, 1 << 62, math.MaxInt - 1, math.MaxInt}
}

// made: a sender of these, and its judge.
func made(t *testing.T, session, epoch int, chunks []string) (*sender.Sender, *judge) {
	t.Helper()
	s, err := sender.New(session, epoch, chunks)
	if s == nil || err != api.OK {
		t.Fatalf("session %d, epoch %d, %d chunks: error %d", session, epoch, len(chunks), err)
	}
	n := len(chunks)
	return s, &judge{session: session, epoch: epoch, chunks: slices.Clone(chunks), there: make([]bool, n), sent: make([][]int, n)}
}

// of: a sender of n chunks, and its judge.
func of(t *testing.T, n int) (*sender.Sender, *judge) {
	t.Helper()
	return made(t, 11, 22, texts(n))
}

// told: an FAck for a sender of n chunks, made by of.
func told(n, base int, bits string) api.Frame {
	return api.Frame{Kind: api.FAck, Session: 11, Epoch: 22, Index: base, Total: n, Data: bits}
}

// hold holds all that a sender tells against its judge.
func hold(t *testing.T, s *sender.Sender, j *judge) {
	t.Helper()
	if s.Done() != j.all() || s.Err() != j.err() {
		t.Fatalf("tick %d: done %t, error %d; not %t, error %d", j.ticks, s.Done(), s.Err(), j.all(), j.err())
	}
	m := s.There()
	if m.Len() != len(j.there) {
		t.Fatalf("tick %d: a map of %d, not %d", j.ticks, m.Len(), len(j.there))
	}
	for i, there := range j.there {
		if m.Has(i) != there || s.Tries(i) != len(j.sent[i]) {
			t.Fatalf("tick %d: chunk %d: there %t, %d tries; not %t, %d", j.ticks, i, m.Has(i), s.Tries(i), there, len(j.sent[i]))
		}
	}
}

// tick lets time go on for both, and holds what is sent.
func tick(t *testing.T, s *sender.Sender, j *judge) ([]api.Frame, api.Errno) {
	t.Helper()
	list, err := s.Tick()
	want, wrong := j.tick()
	if err != wrong || !slices.Equal(list, want) {
		t.Fatalf("tick %d: %#v, error %d; not %#v, error %d", j.ticks, list, err, want, wrong)
	}
	hold(t, s, j)
	return list, err
}

// ack tells both, and holds what comes of it.
func ack(t *testing.T, s *sender.Sender, j *judge, f api.Frame) api.Errno {
	t.Helper()
	err, want := s.Ack(f), j.ack(f)
	if err != want {
		t.Fatalf("tick %d: %#v: error %d, not %d", j.ticks, f, err, want)
	}
	hold(t, s, j)
	return err
}

// expectTick holds what is sent at a tick, by hand and by the judge.
func expectTick(t *testing.T, s *sender.Sender, j *judge, want ...int) {
	t.Helper()
	list, err := tick(t, s, j)
	if err != api.OK || !slices.Equal(indexes(list), want) {
		t.Fatalf("tick %d: %v, error %d; not %v", j.ticks, indexes(list), err, want)
	}
}

// expectEnd holds an error of a tick, behind which the same is told.
func expectEnd(t *testing.T, s *sender.Sender, j *judge, want api.Errno) {
	t.Helper()
	if list, err := tick(t, s, j); len(list) != 0 || err != want {
		t.Fatalf("tick %d: %v, error %d; not %d", j.ticks, indexes(list), err, want)
	}
}

// expectAck holds that an FAck is taken.
func expectAck(t *testing.T, s *sender.Sender, j *judge, base int, bits string) {
	t.Helper()
	if err := ack(t, s, j, told(len(j.chunks), base, bits)); err != api.OK {
		t.Fatalf("tick %d: base %d, bits %x: error %d", j.ticks, base, bits, err)
	}
}

// indexes: the chunks of frames.
func indexes(list []api.Frame) []int {
	var all []int
	for _, f := range list {
		all = append(all, f.Index)
	}
	return all
}

// upTo: the numbers from a up to b, which is left out.
func upTo(a, b int) []int {
	var list []int
	for i := a; i < b; i++ {
		list = append(list, i)
	}
	return list
}

// bitsOf: the base and the bits of an FAck that tells just these chunks of n.
func bitsOf(n int, chunks []int) (int, string) {
	m, _ := sack.New(n)
	for _, i := range chunks {
		m.Set(i)
	}
	return m.Base(), m.Behind(256)
}
