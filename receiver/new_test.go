package receiver_test

import (
	"math"
	"testing"

	"signpost/api"
	"signpost/receiver"
)

// P14.1: a new one: none is there, nothing was refused; of every total that may be.
func TestNew(t *testing.T) {
	for n := 1; n <= 256; n++ {
		r, j := of(t, n)
		hold(t, r, j)
		if r.Done() || r.There().Len() != n || r.There().Count() != 0 || r.Ack() != (api.Frame{Kind: api.FAck, Session: 11, Epoch: 22, Total: n, Data: "\x00\x00"}) {
			t.Errorf("of %d: done %t, %d of %d there, FAck %#v", n, r.Done(), r.There().Count(), r.There().Len(), r.Ack())
		}
	}
}

// P14.1: any session and epoch that may be; the frames of these are taken, and the FAcks are of these.
func TestNewOfNumbers(t *testing.T) {
	for _, session := range rightNumbers() {
		for _, epoch := range rightNumbers() {
			r, j := made(t, session, epoch, 2)
			f := api.Frame{Kind: api.FData, Session: session, Epoch: epoch, Index: 1, Total: 2, Data: "b"}
			expectTake(t, r, j, f, api.OK)
			if got, want := r.Ack(), (api.Frame{Kind: api.FAck, Session: session, Epoch: epoch, Index: 0, Total: 2, Data: "\x01\x00"}); got != want {
				t.Errorf("%#v, not %#v", got, want)
			}
			expectResumed(t, r, j)
		}
	}
}

// expectNoNew holds that there is no such receiver.
func expectNoNew(t *testing.T, session, epoch, total int) {
	t.Helper()
	if r, err := receiver.New(session, epoch, total); r != nil || err != api.ErrArg {
		t.Errorf("session %d, epoch %d, total %d: error %d", session, epoch, total, err)
	}
}

// wrongTotals are some of which there is no receiver.
func wrongTotals() []int {
	return []int{math.MinInt, math.MinInt + 1, -1 << 32, -1<<32 + 1, -257, -256, -255, -2, -1, 0, 257, 258, 511, 512, 513, 65535, 65536, 65537, 1 << 32, 1<<32 + 1, 1<<32 + 256, math.MaxInt}
}

// P14.1: ErrArg, and no receiver, of a session, an epoch, a total that may not be, or of several.
func TestNewOfWrongNumbers(t *testing.T) {
	for _, wrong := range wrongNumbers() {
		for _, right := range rightNumbers() {
			expectNoNew(t, wrong, right, 1)
			expectNoNew(t, right, wrong, 256)
		}
		expectNoNew(t, wrong, wrong, 3)
		expectNoNew(t, wrong, wrong, 0)
		expectNoNew(t, wrong, 0, 257)
		expectNoNew(t, 0, wrong, -1)
	}
	for _, total := range wrongTotals() {
		expectNoNew(t, 0, 0, total)
		expectNoNew(t, 1, 2, total)
		expectNoNew(t, math.MaxUint32, math.MaxUint32, total)
	}
}

// P14.1: two of the same know nothing of each other.
func TestTwoOfTheSame(t *testing.T) {
	one, j := of(t, 20)
	two, k := of(t, 20)
	expectTaken(t, one, j, 3)
	expectTake(t, one, j, chunk(20, 3, ""), api.ErrOnce)
	hold(t, two, k)
	expectTake(t, two, k, chunk(20, 3, "other"), api.OK)
	expectTake(t, two, k, chunk(20, 20, ""), api.ErrIndex)
	hold(t, one, j)
}
