package receiver_test

import (
	"math"
	"math/rand"
	"slices"
	"strings"
	"testing"

	"signpost/api"
)

// P14.1 and P14.2: the chapter's example.
func TestExample(t *testing.T) {
	r, j := of(t, 2)
	expectTake(t, r, j, chunk(2, 1, "b"), api.OK)
	if got := r.Ack(); got.Index != 0 || got.Data != "\x01\x00" {
		t.Errorf("%#v", got)
	}
	expectTake(t, r, j, chunk(2, 1, "b"), api.ErrOnce)
	if r.Drops(api.ErrOnce) != 1 {
		t.Error(r.Drops(api.ErrOnce))
	}
}

// orders: the numbers below n, rising, falling and in some other orders.
func orders(n int) [][]int {
	rising := upTo(0, n)
	falling := slices.Clone(rising)
	slices.Reverse(falling)
	return [][]int{rising, falling, rand.New(rand.NewSource(14)).Perm(n), rand.New(rand.NewSource(141)).Perm(n)}
}

// P14.1 and P14.2: whichever order they come in, and each of them twice: all are there, as they came first.
func TestTakeInAnyOrder(t *testing.T) {
	for _, n := range []int{1, 2, 3, 16, 17, 18, 33, 256} {
		want := strings.Join(texts(n), "")
		for _, order := range orders(n) {
			r, j := of(t, n)
			for _, i := range order {
				if r.Done() {
					t.Fatalf("of %d: done ahead of %d", n, i)
				}
				expectTaken(t, r, j, i)
				expectTake(t, r, j, chunk(n, i, "other"), api.ErrOnce)
			}
			if data, err := r.Data(); data != want || err != api.OK || !r.Done() {
				t.Errorf("of %d: %q, error %d", n, data, err)
			}
			for _, i := range order {
				expectTake(t, r, j, chunk(n, i, texts(n)[i]), api.ErrOnce)
			}
			if r.Drops(api.ErrOnce) != 2*n {
				t.Errorf("of %d: %d twice", n, r.Drops(api.ErrOnce))
			}
		}
	}
}

// P14.1: chunks of 0 to 1000 bytes are taken; an empty one is there as well.
func TestTakeOfLengths(t *testing.T) {
	for _, size := range []int{0, 1, 2, 127, 128, 999, 1000} {
		for _, n := range []int{1, 2, 17} {
			r, j := of(t, n)
			for i := range n {
				expectTake(t, r, j, chunk(n, i, text(size)), api.OK)
				expectTake(t, r, j, chunk(n, i, text(size)), api.ErrOnce)
			}
			if data, err := r.Data(); data != strings.Repeat(text(size), n) || err != api.OK {
				t.Errorf("%d of %d bytes: %d bytes, error %d", n, size, len(data), err)
			}
		}
	}
}

// P14.1: the most that there may be: 256 chunks of 1000 bytes, any ones.
func TestTakeOfTheMost(t *testing.T) {
	all := text(256_000)
	r, j := of(t, 256)
	for _, i := range rand.New(rand.NewSource(256)).Perm(256) {
		f := chunk(256, i, all[1000*i:1000*i+1000])
		if err, want := r.Take(f), j.take(f); err != api.OK || want != api.OK {
			t.Fatalf("%d: error %d", i, err)
		}
	}
	hold(t, r, j)
	if data, err := r.Data(); data != all || err != api.OK {
		t.Errorf("%d bytes, error %d", len(data), err)
	}
	expectResumed(t, r, j)
}

// expectRefused holds that a frame is refused by a receiver of 20 chunks, of which 0, 1 and 4 are there, and counted beside what was refused ahead.
func expectRefused(t *testing.T, f api.Frame, want api.Errno) {
	t.Helper()
	r, j := with(t, 20, 0, 1, 4)
	expectTake(t, r, j, chunk(20, 4, ""), api.ErrOnce)
	expectTake(t, r, j, chunk(20, 20, ""), api.ErrIndex)
	ahead := r.Drops(want)
	for n := range 3 {
		expectTake(t, r, j, f, want)
		if r.Drops(want) != ahead+n+1 {
			t.Errorf("%d of error %d, not %d", r.Drops(want), want, ahead+n+1)
		}
	}
	expectTaken(t, r, j, 2)
}

// P14.1: ErrArg of what is no FData.
func TestTakeOfWrongKinds(t *testing.T) {
	for _, kind := range []int{math.MinInt, -2, -1, 0, 2, 3, 4, 257, 1<<32 + 1, math.MaxInt} {
		f := chunk(20, 9, "data")
		f.Kind = kind
		expectRefused(t, f, api.ErrArg)
	}
	expectRefused(t, api.Frame{}, api.ErrArg)
	r, j := with(t, 20, 0, 1, 4)
	expectTake(t, r, j, r.Ack(), api.ErrArg)
}

// P14.1: ErrArg of frames that may not be, though they are FData.
func TestTakeOfFramesThatMayNotBe(t *testing.T) {
	for _, f := range mayNotBe(chunk(20, 9, "data")) {
		expectRefused(t, f, api.ErrArg)
	}
}

// mayNotBe: a frame, so changed that there is none such.
func mayNotBe(f api.Frame) []api.Frame {
	var list []api.Frame
	for _, wrong := range wrongNumbers() {
		g, h := f, f
		g.Session, h.Epoch = wrong, wrong
		list = append(list, g, h)
	}
	for _, wrong := range []int{math.MinInt, -65536, -20, -11, -1, 65536, 65537, 65536 + 9, 65536 + 20, 1<<32 + 9, 1<<32 + 20, math.MaxInt} {
		g, h := f, f
		g.Index, h.Total = wrong, wrong
		list = append(list, g, h)
	}
	for _, size := range []int{65001, 65002, 65536, 65537, 70_000} {
		g := f
		g.Data = text(size)
		list = append(list, g)
	}
	return list
}

// P14.1: ErrSession, ErrEpoch of others that may be.
func TestTakeOfOtherSessions(t *testing.T) {
	for _, other := range append(rightNumbers(), 10, 12, 21, 23, 11+256, 22+256, 11+65536, 22+65536) {
		f, g := chunk(20, 9, "data"), chunk(20, 9, "data")
		f.Session, g.Epoch = other, other
		expectRefused(t, f, api.ErrSession)
		expectRefused(t, g, api.ErrEpoch)
	}
	f := chunk(20, 9, "data")
	f.Session, f.Epoch = f.Epoch, f.Session
	expectRefused(t, f, api.ErrSession)
}

// P14.1: ErrIndex of another Total, whatever the Index, and of an Index of Total and above.
func TestTakeOfWrongIndexes(t *testing.T) {
	for _, total := range []int{0, 1, 2, 9, 10, 19, 21, 22, 256, 257, 276, 65535} {
		for _, index := range []int{0, 1, 4, 9, 19, 20, 21, 256, 65535} {
			expectRefused(t, chunk(total, index, "data"), api.ErrIndex)
		}
	}
	for _, index := range []int{20, 21, 22, 24, 255, 256, 265, 276, 32768, 65534, 65535} {
		expectRefused(t, chunk(20, index, "data"), api.ErrIndex)
		expectRefused(t, chunk(20, index, ""), api.ErrIndex)
	}
}

// P14.1: the last chunk of each total is taken, and the one behind it isn't.
func TestTakeOfLastIndexes(t *testing.T) {
	for _, n := range sizes() {
		r, j := of(t, n)
		expectTake(t, r, j, chunk(n, n, "data"), api.ErrIndex)
		expectTake(t, r, j, chunk(n+1, n, "data"), api.ErrIndex)
		expectTake(t, r, j, chunk(n+1, n-1, "data"), api.ErrIndex)
		expectTake(t, r, j, chunk(n-1, n-1, "data"), api.ErrIndex)
		expectTake(t, r, j, chunk(n, n-1, "data"), api.OK)
		if r.Drops(api.ErrIndex) != 4 || !r.There().Has(n-1) || r.There().Count() != 1 {
			t.Errorf("of %d: %d of ErrIndex, %d there", n, r.Drops(api.ErrIndex), r.There().Count())
		}
	}
}

// P14.1: ErrBig of more than 1000 bytes, up to what a frame may have, ahead of ErrOnce.
func TestTakeOfTooManyBytes(t *testing.T) {
	for _, size := range []int{1001, 1002, 1024, 1256, 2000, 2024, 64999, 65000} {
		expectRefused(t, chunk(20, 9, text(size)), api.ErrBig)
		expectRefused(t, chunk(20, 19, text(size)), api.ErrBig)
		for _, there := range []int{0, 1, 4} {
			expectRefused(t, chunk(20, there, text(size)), api.ErrBig)
		}
	}
}

// P14.1: ErrOnce of a chunk that is there, with the same bytes, or others, or none.
func TestTakeOfOnesThatAreThere(t *testing.T) {
	for _, i := range []int{0, 1, 4} {
		for _, data := range []string{texts(20)[i], "", "other", text(1000)} {
			expectRefused(t, chunk(20, i, data), api.ErrOnce)
		}
	}
}

// severals: frames with the errors that the bits of some stand for, and the one of these that is told.
func severals(some int) ([]api.Frame, api.Errno) {
	f, want := chunk(20, 9, "data"), api.OK
	if some&1 != 0 {
		f.Index, want = 4, api.ErrOnce
	}
	if some&2 != 0 {
		f.Data, want = text(1001), api.ErrBig
	}
	if some&4 != 0 {
		f.Index, want = 20, api.ErrIndex
	}
	if some&8 != 0 {
		f.Total, want = 19, api.ErrIndex
	}
	if some&16 != 0 {
		f.Epoch, want = 23, api.ErrEpoch
	}
	if some&32 != 0 {
		f.Session, want = 12, api.ErrSession
	}
	if some&64 != 0 {
		f.Kind = api.FAck
		return append(mayNotBe(f), f), api.ErrArg
	}
	if some&128 != 0 {
		return mayNotBe(f), api.ErrArg
	}
	return []api.Frame{f}, want
}

// P14.1: of several errors the one that the chapter names first; that one alone is counted.
func TestTakeOfSeveralErrors(t *testing.T) {
	for some := 1; some < 256; some++ {
		list, want := severals(some)
		for _, f := range list {
			r, j := of(t, 20)
			r.Take(chunk(20, 4, "there"))
			j.take(chunk(20, 4, "there"))
			expectTake(t, r, j, f, want)
			if r.Drops(want) != 1 {
				t.Errorf("%d of error %d", r.Drops(want), want)
			}
		}
	}
}

// P14.1: once all are there frames are refused just as ahead.
func TestTakeOnceAllAreThere(t *testing.T) {
	r, j := with(t, 3, 0, 1, 2)
	for _, c := range []struct {
		f    api.Frame
		want api.Errno
	}{
		{chunk(3, 0, "other"), api.ErrOnce}, {chunk(3, 2, texts(3)[2]), api.ErrOnce}, {chunk(3, 2, text(1001)), api.ErrBig}, {chunk(3, 3, ""), api.ErrIndex}, {chunk(4, 0, ""), api.ErrIndex},
		{api.Frame{Kind: 1, Session: 11, Epoch: 21, Total: 3}, api.ErrEpoch}, {api.Frame{Kind: 1, Session: 10, Epoch: 22, Total: 3}, api.ErrSession}, {r.Ack(), api.ErrArg},
	} {
		expectTake(t, r, j, c.f, c.want)
	}
	if data, err := r.Data(); data != "chunk 0chunk 1chunk 2" || err != api.OK {
		t.Errorf("%q, error %d", data, err)
	}
}
