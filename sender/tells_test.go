package sender_test

import (
	"math"
	"testing"

	"signpost/api"
	"signpost/sender"
)

// P13.2: a map that was told, and the sender, know nothing of each other.
func TestThere(t *testing.T) {
	s, j := of(t, 20)
	tick(t, s, j)
	expectAck(t, s, j, 2, "\x01")
	m, o := s.There(), s.There()
	m.Merge(20, "")
	hold(t, s, j)
	if o.Count() != 3 {
		t.Errorf("%d there", o.Count())
	}
	expectTick(t, s, j, 8, 9)
	expectAck(t, s, j, 5, "")
	if o.Count() != 3 || o.Base() != 2 || !o.Has(3) || !m.Full() {
		t.Errorf("%d there, base %d", o.Count(), o.Base())
	}
	expectAck(t, s, j, 20, "")
	if o.Full() || !s.There().Full() {
		t.Error("a map that was told ahead knows it")
	}
}

// P13.1: a list of frames, and the sender, know nothing of each other.
func TestFramesAreNew(t *testing.T) {
	s, j := of(t, 10)
	list, _ := tick(t, s, j)
	for i := range list {
		list[i] = api.Frame{Kind: 9, Session: 9, Epoch: 9, Index: 9, Total: 9, Data: "changed"}
	}
	list = append(list[:0:cap(list)], api.Frame{})
	for range 3 {
		tick(t, s, j)
	}
	again, _ := tick(t, s, j)
	if len(again) != 8 || again[0] != j.frame(0) || list[0] != (api.Frame{}) {
		t.Errorf("%v, %v", again, list)
	}
}

// P13.2: tries are counted of each chunk by itself; 0 of one that there is not.
func TestTries(t *testing.T) {
	s, j := of(t, 10)
	for range 5 {
		tick(t, s, j)
	}
	expectAck(t, s, j, 1, "\x01")
	tick(t, s, j)
	for i, want := range []int{2, 2, 2, 2, 2, 2, 2, 2, 1, 0} {
		if got := s.Tries(i); got != want {
			t.Errorf("%d tries of %d, not %d", got, i, want)
		}
	}
	for _, i := range []int{math.MinInt, -1 << 32, -10, -9, -1, 10, 11, 256, 1 << 32, 1<<32 + 1, math.MaxInt} {
		if got := s.Tries(i); got != 0 {
			t.Errorf("%d tries of %d", got, i)
		}
	}
	hold(t, s, j)
}

// P13.2: asking changes nothing, however often.
func TestAskingChangesNothing(t *testing.T) {
	s, j := of(t, 10)
	for range 40 {
		for range 5 {
			hold(t, s, j)
		}
		tick(t, s, j)
	}
}

// P13.2: each call of a nil *Sender.
func TestNil(t *testing.T) {
	var s *sender.Sender
	if list, err := s.Tick(); len(list) != 0 || err != api.ErrNil {
		t.Errorf("%v, error %d", list, err)
	}
	for _, f := range []api.Frame{{}, told(0, 0, ""), told(20, 3, "\xff"), {Kind: api.FData}, {Kind: api.FAck}, {Kind: api.FAck, Session: -1, Epoch: -1, Index: -1, Total: -1}} {
		if err := s.Ack(f); err != api.ErrNil {
			t.Errorf("%#v: error %d", f, err)
		}
	}
	if s.Done() || s.Err() != api.ErrNil || s.There() != nil {
		t.Errorf("done %t, error %d, there %v", s.Done(), s.Err(), s.There())
	}
	for _, i := range []int{math.MinInt, -1, 0, 1, 255, 256, math.MaxInt} {
		if got := s.Tries(i); got != 0 {
			t.Errorf("%d tries of %d", got, i)
		}
	}
}

// Rule 1: a sender that New didn't make: no call panics.
func TestZeroValue(t *testing.T) {
	var s sender.Sender
	for range 3 {
		if list, err := s.Tick(); len(list) != 0 || err != api.OK {
			t.Errorf("%v, error %d", list, err)
		}
		s.Ack(api.Frame{})
		s.Ack(api.Frame{Kind: api.FAck, Data: "\xff"})
		s.Ack(told(20, 3, "\xff"))
	}
	if s.Done() || s.Err() != api.OK || s.There() != nil || s.Tries(0) != 0 {
		t.Errorf("done %t, error %d, there %v, %d tries", s.Done(), s.Err(), s.There(), s.Tries(0))
	}
}
