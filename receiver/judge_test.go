package receiver_test

import (
	"encoding/binary"
	"math"
	"math/rand"
	"strconv"
	"testing"

	"signpost/api"
	"signpost/receiver"
)

// judge is a receiver by the chapter's words.
type judge struct {
	session, epoch, total int
	chunks                map[int]string // those that are there
	drops                 map[api.Errno]int
}

// judgeOf: of none.
func judgeOf(session, epoch, total int) *judge {
	return &judge{session, epoch, total, map[int]string{}, map[api.Errno]int{}}
}

// has: is it there?
func (j *judge) has(i int) bool {
	_, there := j.chunks[i]
	return there
}

// mayBe: layer 11's words of a frame.
func mayBe(f api.Frame) bool {
	return (f.Kind == 1 || f.Kind == 2) && f.Session >= 0 && f.Session < 1<<32 && f.Epoch >= 0 && f.Epoch < 1<<32 &&
		f.Index >= 0 && f.Index < 1<<16 && f.Total >= 0 && f.Total < 1<<16 && len(f.Data) <= 65000
}

func (j *judge) refusal(f api.Frame) api.Errno {
	if !mayBe(f) || f.Kind == 2 {
		return api.ErrArg
	}
	if f.Session != j.session {
		return api.ErrSession
	}
	if f.Epoch != j.epoch {
		return api.ErrEpoch
	}
	if f.Total != j.total || f.Index >= j.total {
		return api.ErrIndex
	}
	if len(f.Data) > 1000 {
		return api.ErrBig
	}
	if j.has(f.Index) {
		return api.ErrOnce
	}
	return api.OK
}

func (j *judge) take(f api.Frame) api.Errno {
	err := j.refusal(f)
	if err == api.OK {
		j.chunks[f.Index] = f.Data
	} else {
		j.drops[err]++
	}
	return err
}

func (j *judge) ack() api.Frame {
	base := 0
	for j.has(base) {
		base++
	}
	var bits [2]byte
	for i := range 16 {
		if j.has(base + 1 + i) {
			bits[i/8] |= 1 << (i % 8)
		}
	}
	return api.Frame{Kind: 2, Session: j.session, Epoch: j.epoch, Index: base, Total: j.total, Data: string(bits[:])}
}

func (j *judge) data() (string, api.Errno) {
	all := ""
	for i := range j.total {
		if !j.has(i) {
			return "", api.ErrState
		}
		all += j.chunks[i]
	}
	return all, api.OK
}

func (j *judge) cursor() string {
	s := head(uint64(j.session), uint64(j.epoch), uint64(j.total))
	for i := range j.total {
		if j.has(i) {
			s += part(uint64(i), j.chunks[i])
		}
	}
	return s + number(uint64(j.total))
}

// resumed: as it would be behind Resume of its cursor.
func (j *judge) resumed() *judge {
	k := judgeOf(j.session, j.epoch, j.total)
	for i, data := range j.chunks {
		k.chunks[i] = data
	}
	return k
}

// number is layer 1's bytes of one; longer the same, with one byte too many.
func number(n uint64) string { return string(binary.AppendUvarint(nil, n)) }

func longer(n uint64) string {
	s := []byte(number(n))
	s[len(s)-1] |= 0x80
	return string(s) + "\x00"
}

// head: the three numbers of a cursor; part: a chunk of it.
func head(session, epoch, total uint64) string {
	return number(session) + number(epoch) + number(total)
}

func part(i uint64, data string) string {
	return number(i) + number(uint64(len(data))) + data
}

// reading is bytes from the front, by layer 1's words, and what was wrong first.
type reading struct {
	rest string
	err  api.Errno
}

func (r *reading) number() uint64 {
	if r.err != api.OK {
		return 0
	}
	n, size := binary.Uvarint([]byte(r.rest))
	if size == 0 && len(r.rest) < 10 {
		r.err = api.ErrShort
		return 0
	}
	if size <= 0 || size > 1 && r.rest[size-1] == 0 {
		r.err = api.ErrForm
		return 0
	}
	r.rest = r.rest[size:]
	return n
}

func (r *reading) text() string {
	n := r.number()
	switch {
	case r.err != api.OK:
		return ""
	case n > 1000:
		r.err = api.ErrBig
		return ""
	case n > uint64(len(r.rest)):
		r.err = api.ErrShort
		return ""
	}
	s := r.rest[:n]
	r.rest = r.rest[n:]
	return s
}

// judged: what bytes are as a cursor, by the chapter's words.
func judged(s string) (*judge, api.Errno) {
	r := &reading{rest: s}
	session, epoch, total := r.number(), r.number(), r.number()
	if r.err != api.OK {
		return nil, r.err
	}
	if session > math.MaxUint32 || epoch > math.MaxUint32 || total < 1 || total > 256 {
		return nil, api.ErrArg
	}
	j := judgeOf(int(session), int(epoch), int(total))
	for last := -1; ; {
		n := r.number()
		if r.err != api.OK {
			return nil, r.err
		}
		if n == total {
			break
		}
		if n > total {
			return nil, api.ErrIndex
		}
		if int(n) <= last {
			return nil, api.ErrOrder
		}
		last = int(n)
		j.chunks[last] = r.text()
		if r.err != api.OK {
			return nil, r.err
		}
	}
	if r.rest != "" {
		return nil, api.ErrForm
	}
	return j, api.OK
}

// texts: n chunks, unlike each other, of unlike lengths.
func texts(n int) []string {
	list := make([]string, n)
	for i := range list {
		list[i] = "chunk " + strconv.Itoa(i)
	}
	return list
}

// text: so many bytes, any ones, the same each time.
func text(n int) string {
	list := make([]byte, n)
	rand.New(rand.NewSource(int64(n))).Read(list)
	return string(list)
}

// sizes are the least and the greatest, and those around what an FAck tells, and a byte.
func sizes() []int { return []int{1, 2, 3, 8, 9, 15, 16, 17, 18, 19, 33, 127, 128, 255, 256} }

// rightNumbers are some of a session or an epoch; wrongNumbers some of none, which partly are in their lowest bits.
func rightNumbers() []int {
	return []int{0, 1, 2, 127, 128, 255, 65535, 65536, math.MaxInt32, math.MaxInt32 + 1, math.MaxUint32 - 1, math.MaxUint32}
}

func wrongNumbers() []int {
	return []int{math.MinInt, math.MinInt + 1, math.MinInt32, -1 << 32, -1<<32 + 1, -2, -1, 1 << 32, 1<<32 + 1, 1<<32 + 11, 1 << 33, 1 << 62, math.MaxInt - 1, math.MaxInt}
}

// upTo: the numbers from a up to b, which is left out.
func upTo(a, b int) []int {
	var list []int
	for i := a; i < b; i++ {
		list = append(list, i)
	}
	return list
}

// made: a receiver of these, and its judge.
func made(t *testing.T, session, epoch, total int) (*receiver.Receiver, *judge) {
	t.Helper()
	r, err := receiver.New(session, epoch, total)
	if r == nil || err != api.OK {
		t.Fatalf("session %d, epoch %d, total %d: error %d", session, epoch, total, err)
	}
	return r, judgeOf(session, epoch, total)
}

// of: a receiver of n chunks, and its judge.
func of(t *testing.T, n int) (*receiver.Receiver, *judge) {
	t.Helper()
	return made(t, 11, 22, n)
}

// with: one of n chunks, of which some are there.
func with(t *testing.T, n int, chunks ...int) (*receiver.Receiver, *judge) {
	t.Helper()
	r, j := of(t, n)
	for _, i := range chunks {
		expectTaken(t, r, j, i)
	}
	return r, j
}

// chunk: a frame for a receiver of n chunks that of made.
func chunk(n, i int, data string) api.Frame {
	return api.Frame{Kind: api.FData, Session: 11, Epoch: 22, Index: i, Total: n, Data: data}
}

// errors are all that there are, and some that there are not.
func errors() []api.Errno {
	list := []api.Errno{math.MinInt, -1 << 32, -256, -16, -1, 256, 1 << 32, 1<<32 + 9, math.MaxInt}
	for e := range api.Errno(40) {
		list = append(list, e)
	}
	return list
}

// hold holds all that a receiver tells against its judge.
func hold(t *testing.T, r *receiver.Receiver, j *judge) {
	t.Helper()
	if got, want := r.Ack(), j.ack(); got != want {
		t.Fatalf("%d of %d there: FAck %#v, not %#v", len(j.chunks), j.total, got, want)
	}
	data, err := r.Data()
	if want, wrong := j.data(); data != want || err != wrong || r.Done() != (wrong == api.OK) {
		t.Fatalf("%d of %d there: done %t, data %q, error %d; not %q, error %d", len(j.chunks), j.total, r.Done(), data, err, want, wrong)
	}
	m := r.There()
	if m.Len() != j.total || m.Count() != len(j.chunks) {
		t.Fatalf("a map of %d, %d there; not of %d, %d", m.Len(), m.Count(), j.total, len(j.chunks))
	}
	for i := range j.total {
		if m.Has(i) != j.has(i) {
			t.Fatalf("%d of %d there: chunk %d: %t", len(j.chunks), j.total, i, m.Has(i))
		}
	}
	for _, e := range errors() {
		if got := r.Drops(e); got != j.drops[e] {
			t.Fatalf("%d of error %d, not %d", got, e, j.drops[e])
		}
	}
	if got, want := r.Cursor(), j.cursor(); got != want {
		t.Fatalf("%d of %d there: cursor %x, not %x", len(j.chunks), j.total, got, want)
	}
}

// take hands a frame to both, and holds what comes of it.
func take(t *testing.T, r *receiver.Receiver, j *judge, f api.Frame) api.Errno {
	t.Helper()
	err, want := r.Take(f), j.take(f)
	if err != want {
		t.Fatalf("%d of %d there: %#v: error %d, not %d", len(j.chunks), j.total, f, err, want)
	}
	hold(t, r, j)
	return err
}

// expectTaken holds that a chunk of a receiver that of made is taken.
func expectTaken(t *testing.T, r *receiver.Receiver, j *judge, i int) {
	t.Helper()
	expectTake(t, r, j, chunk(j.total, i, "chunk "+strconv.Itoa(i)), api.OK)
}

// expectTake holds what comes of a frame, by hand and by the judge.
func expectTake(t *testing.T, r *receiver.Receiver, j *judge, f api.Frame, want api.Errno) {
	t.Helper()
	if err := take(t, r, j, f); err != want {
		t.Fatalf("%d of %d there: kind %d, session %d, epoch %d, index %d, total %d, %d bytes: error %d, not %d", len(j.chunks), j.total, f.Kind, f.Session, f.Epoch, f.Index, f.Total, len(f.Data), err, want)
	}
}

// resume holds Resume of any bytes against the judge: another receiver, or the error.
func resume(t *testing.T, s string) (*receiver.Receiver, *judge, api.Errno) {
	t.Helper()
	r, err := receiver.Resume(s)
	j, want := judged(s)
	if err != want || (r == nil) != (want != api.OK) {
		t.Fatalf("%x: error %d, not %d (%t)", s, err, want, r == nil)
	}
	if r != nil {
		hold(t, r, j)
		if r.Cursor() != s {
			t.Fatalf("%x: its cursor is %x", s, r.Cursor())
		}
	}
	return r, j, err
}

// expectResumed: a receiver that goes on from the cursor of one, and its judge.
func expectResumed(t *testing.T, r *receiver.Receiver, j *judge) (*receiver.Receiver, *judge) {
	t.Helper()
	q, _, err := resume(t, r.Cursor())
	if err != api.OK {
		t.Fatalf("%x: error %d", r.Cursor(), err)
	}
	k := j.resumed()
	hold(t, q, k)
	return q, k
}

// expectNone holds that bytes are no cursor, by hand and by the judge.
func expectNone(t *testing.T, s string, want api.Errno) {
	t.Helper()
	if _, _, err := resume(t, s); err != want {
		t.Fatalf("%x: error %d, not %d", s, err, want)
	}
}
