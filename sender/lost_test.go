package sender_test

import (
	"slices"
	"testing"

	"signpost/api"
	"signpost/sender"
)

// untilEighth: a sender of n chunks behind the tick at which its first ones were sent the eighth time, none of them there.
func untilEighth(t *testing.T, n int) (*sender.Sender, *judge) {
	t.Helper()
	s, j := of(t, n)
	for range 29 {
		if _, err := tick(t, s, j); err != api.OK {
			t.Fatalf("tick %d: error %d", j.ticks, err)
		}
	}
	if s.Tries(0) != 8 || s.Err() != api.OK {
		t.Fatalf("%d tries, error %d", s.Tries(0), s.Err())
	}
	return s, j
}

// P13.1: the eighth time a chunk is sent; three ticks behind it isn't due, so nothing is lost; the ninth time all is.
func TestLost(t *testing.T) {
	for _, n := range sizes() {
		s, j := untilEighth(t, n)
		for range 3 {
			expectTick(t, s, j)
			if s.Err() != api.OK {
				t.Fatalf("of %d: error %d", n, s.Err())
			}
		}
		for range 10 {
			expectEnd(t, s, j, api.ErrLost)
		}
		for i := range n {
			if want := []int{8, 0}[min(i/8, 1)]; s.Tries(i) != want {
				t.Errorf("of %d: %d tries of %d", n, s.Tries(i), i)
			}
		}
		if s.Err() != api.ErrLost || s.Done() {
			t.Errorf("of %d: error %d, done %t", n, s.Err(), s.Done())
		}
	}
}

// P13.1: one chunk that never comes is enough, wherever it stands in the window.
func TestLostByOne(t *testing.T) {
	for at := range 8 {
		s, j := untilEighth(t, 20)
		base, bits := bitsOf(20, slices.DeleteFunc(upTo(0, 8), func(i int) bool { return i == at }))
		expectAck(t, s, j, base, bits)
		for range 3 {
			if _, err := tick(t, s, j); err != api.OK {
				t.Fatalf("without %d: error %d", at, err)
			}
		}
		expectEnd(t, s, j, api.ErrLost)
	}
}

// P13.1: at the tick at which it is lost nothing is sent, not even what is due for the second time.
func TestLostHoldsBackTheOthers(t *testing.T) {
	s, j := of(t, 20)
	expectTick(t, s, j, 0, 1, 2, 3, 4, 5, 6, 7)
	for range 3 {
		expectTick(t, s, j)
	}
	expectAck(t, s, j, 1, "") // now 8 is sent with the others, its first time at their second one
	for range 7 {
		expectTick(t, s, j, 1, 2, 3, 4, 5, 6, 7, 8)
		for range 3 {
			expectTick(t, s, j)
		}
	}
	expectEnd(t, s, j, api.ErrLost)
	if s.Tries(7) != 8 || s.Tries(8) != 7 || s.Tries(0) != 1 {
		t.Errorf("%d, %d, %d tries", s.Tries(7), s.Tries(8), s.Tries(0))
	}
}

// P13.1: a chunk that was sent eight times and isn't due holds back nothing.
func TestEighthHoldsBackNothing(t *testing.T) {
	s, j := of(t, 20)
	expectTick(t, s, j, 0, 1, 2, 3, 4, 5, 6, 7)
	expectAck(t, s, j, 2, "")
	for range 28 {
		tick(t, s, j)
	}
	expectTick(t, s, j, 8, 9) // the eighth time, as that of the others was the tick ahead
	expectTick(t, s, j)
	expectAck(t, s, j, 3, "")
	expectTick(t, s, j, 10) // the first time
	expectEnd(t, s, j, api.ErrLost)
	if s.Tries(7) != 8 || s.Tries(9) != 8 || s.Tries(10) != 1 {
		t.Errorf("%d, %d, %d tries", s.Tries(7), s.Tries(9), s.Tries(10))
	}
}

// P13.1: what comes behind the eighth time, ahead of the ninth, isn't lost; the others go on.
func TestNotLostWhenItComes(t *testing.T) {
	for wait := range 4 {
		s, j := untilEighth(t, 12)
		for range wait {
			expectTick(t, s, j)
		}
		expectAck(t, s, j, 8, "")
		expectTick(t, s, j, 8, 9, 10, 11)
		expectAck(t, s, j, 12, "")
		expectEnd(t, s, j, api.ErrDone)
		if s.Err() != api.ErrDone {
			t.Errorf("behind %d ticks: error %d", wait, s.Err())
		}
	}
}

// lostOne: a sender of n chunks that was lost.
func lostOne(t *testing.T, n int) (*sender.Sender, *judge) {
	t.Helper()
	s, j := untilEighth(t, n)
	for range 3 {
		expectTick(t, s, j)
	}
	expectEnd(t, s, j, api.ErrLost)
	return s, j
}

// P13.2: an FAck to a lost one is taken; it stays lost, and nothing is sent any more.
func TestAckOfLost(t *testing.T) {
	s, j := lostOne(t, 20)
	for _, c := range []struct {
		base  int
		bits  string
		count int
	}{{0, "", 0}, {0, "\x01", 1}, {3, "", 3}, {8, "\x01", 9}, {19, "", 19}} {
		expectAck(t, s, j, c.base, c.bits)
		if got := s.There().Count(); got != c.count || s.Done() || s.Err() != api.ErrLost {
			t.Errorf("base %d: %d there, done %t, error %d", c.base, got, s.Done(), s.Err())
		}
		for range 5 {
			expectEnd(t, s, j, api.ErrLost)
		}
	}
	if s.Tries(8) != 0 || s.Tries(19) != 0 {
		t.Errorf("%d, %d tries", s.Tries(8), s.Tries(19))
	}
}

// P13.1 and P13.2: a lost one that is told that all are there: Tick says ErrDone, Err still ErrLost.
func TestAllOfLost(t *testing.T) {
	for _, n := range sizes() {
		s, j := lostOne(t, n)
		expectAck(t, s, j, n, "")
		for range 5 {
			if !s.Done() || s.Err() != api.ErrLost {
				t.Fatalf("of %d: done %t, error %d", n, s.Done(), s.Err())
			}
			expectEnd(t, s, j, api.ErrDone)
		}
	}
}

// P13.2: what is refused of a lost one is refused by the same errors.
func TestWrongAckOfLost(t *testing.T) {
	s, j := lostOne(t, 3)
	for _, c := range []struct {
		f    api.Frame
		want api.Errno
	}{
		{api.Frame{Kind: api.FData, Session: 11, Epoch: 22, Index: 3, Total: 3}, api.ErrArg},
		{api.Frame{Kind: api.FAck, Session: 12, Epoch: 22, Index: 3, Total: 3}, api.ErrSession},
		{api.Frame{Kind: api.FAck, Session: 11, Epoch: 21, Index: 3, Total: 3}, api.ErrEpoch},
		{api.Frame{Kind: api.FAck, Session: 11, Epoch: 22, Index: 3, Total: 4}, api.ErrIndex},
	} {
		if err := ack(t, s, j, c.f); err != c.want {
			t.Errorf("%#v: error %d", c.f, err)
		}
	}
	expectEnd(t, s, j, api.ErrLost)
}
