package sender_test

import (
	"math"
	"slices"
	"strings"
	"testing"

	"signpost/api"
)

// P13.2: Index tells all below it, from 0 up to the number of chunks; those behind stay missing.
func TestAckOfIndex(t *testing.T) {
	for _, n := range sizes() {
		for base := range n + 1 {
			s, j := of(t, n)
			tick(t, s, j)
			expectAck(t, s, j, base, "")
			m := s.There()
			if m.Count() != base || m.Base() != base || s.Done() != (base == n) {
				t.Fatalf("of %d, base %d: %d there, base %d, done %t", n, base, m.Count(), m.Base(), s.Done())
			}
		}
	}
}

// P13.2: bits tell those behind Index, the lowest first; Index itself has none, and bits of no chunk tell nothing.
func TestAckOfBits(t *testing.T) {
	for _, c := range []struct {
		n, base int
		bits    string
		want    []int // of those that aren't below base
	}{
		{5, 0, "\x01", []int{1}}, {5, 0, "\x08", []int{4}}, {5, 0, "\x10", nil}, {5, 0, "\xff", []int{1, 2, 3, 4}}, {5, 0, "\x00\xff\xff", nil},
		{5, 2, "\x01", []int{3}}, {5, 2, "\x02", []int{4}}, {5, 2, "\x03", []int{3, 4}}, {5, 2, "\xfc", nil},
		{5, 4, "\xff", nil}, {5, 5, "\xff\xff", nil}, {1, 0, "\xff", nil}, {1, 1, "\xff", nil},
		{20, 0, "\x80\x01", []int{8, 9}}, {20, 3, "\x01\x80", []int{4, 19}}, {20, 3, "\x00\x00\x01", nil}, {20, 10, "\x55\x55", []int{11, 13, 15, 17, 19}},
		{256, 0, strings.Repeat("\x00", 31) + "\x40", []int{255}}, {256, 0, strings.Repeat("\x00", 31) + "\x80", nil}, {256, 254, "\x01", []int{255}}, {256, 255, strings.Repeat("\xff", 100), nil},
	} {
		s, j := of(t, c.n)
		expectAck(t, s, j, c.base, c.bits)
		there := slices.DeleteFunc(upTo(c.base, c.n), func(i int) bool { return !s.There().Has(i) })
		if !slices.Equal(there, c.want) || s.There().Count() != c.base+len(c.want) {
			t.Errorf("of %d, base %d, bits %x: %v, %d in all; not %v", c.n, c.base, c.bits, there, s.There().Count(), c.want)
		}
	}
}

// P13.2: Data of any length is taken, even more than a frame may have, as no more is asked than that it is an FAck.
func TestAckOfManyBits(t *testing.T) {
	for _, size := range []int{32, 33, 1000, 1001, 65000, 65001, 100_000} {
		s, j := of(t, 256)
		expectAck(t, s, j, 0, strings.Repeat("\xff", size))
		expectTick(t, s, j, 0)
		expectAck(t, s, j, 1, "")
		expectEnd(t, s, j, api.ErrDone)
	}
}

// P13.2: what is there stays so, whatever comes behind it, late or twice.
func TestAckTwiceAndLate(t *testing.T) {
	s, j := of(t, 20)
	tick(t, s, j)
	for _, c := range []struct {
		base  int
		bits  string
		count int
	}{{4, "\x01", 5}, {4, "\x01", 5}, {2, "", 5}, {0, "\x00\x02", 6}, {0, "", 6}, {6, "", 7}, {4, "\x01", 7}, {19, "", 19}, {0, "", 19}, {20, "", 20}, {0, "", 20}, {19, "", 20}} {
		expectAck(t, s, j, c.base, c.bits)
		if got := s.There().Count(); got != c.count {
			t.Errorf("base %d, bits %x: %d there, not %d", c.base, c.bits, got, c.count)
		}
	}
	if !s.Done() || s.Err() != api.ErrDone {
		t.Errorf("done %t, error %d", s.Done(), s.Err())
	}
}

// P13.2: FAcks are heard ahead of the first tick, too; of what was never sent as well.
func TestAckAheadOfTicks(t *testing.T) {
	s, j := of(t, 20)
	expectAck(t, s, j, 5, "\x02")
	expectTick(t, s, j, 5, 6, 8, 9, 10, 11, 12)
	o, k := of(t, 20)
	expectAck(t, o, k, 20, "")
	expectEnd(t, o, k, api.ErrDone)
	if o.Tries(0) != 0 {
		t.Errorf("%d tries", o.Tries(0))
	}
}

// P13.2: an FAck isn't a tick: four of them make nothing due.
func TestAckIsNoTick(t *testing.T) {
	s, j := of(t, 3)
	expectTick(t, s, j, 0, 1, 2)
	for range 10 {
		expectAck(t, s, j, 0, "")
	}
	expectTick(t, s, j)
	expectTick(t, s, j)
	expectTick(t, s, j)
	expectTick(t, s, j, 0, 1, 2)
}

// expectRefused holds an error by which nothing changes.
func expectRefused(t *testing.T, f api.Frame, want api.Errno) {
	t.Helper()
	s, j := of(t, 20)
	tick(t, s, j)
	expectAck(t, s, j, 2, "\x02")
	if err := ack(t, s, j, f); err != want {
		t.Errorf("%#v: error %d, not %d", f, err, want)
	}
	expectTick(t, s, j, 8, 9)
	expectTick(t, s, j)
	expectTick(t, s, j)
	expectTick(t, s, j, 2, 3, 5, 6, 7)
}

// wrongKinds, wrongSessions and so on are what an FAck for such a sender may not have; some of them it may, in their lowest bits.
func wrongKinds() []int {
	return []int{math.MinInt, -2, -1, 0, 1, 3, 4, 258, 1<<32 + 2, math.MaxInt}
}

func wrongSessions() []int {
	return []int{math.MinInt, -11, -1, 0, 10, 12, 22, 267, 1<<32 + 11, math.MaxInt}
}

func wrongEpochs() []int {
	return []int{math.MinInt, -22, -1, 0, 11, 21, 23, 278, 1<<32 + 22, math.MaxInt}
}

func wrongTotals() []int {
	return []int{math.MinInt, -20, -1, 0, 1, 2, 19, 21, 256, 276, 1<<32 + 20, math.MaxInt}
}

func wrongIndexes() []int {
	return []int{math.MinInt, math.MinInt + 5, -20, -2, -1, 21, 22, 256, 257, 65536, 1 << 32, 1<<32 + 5, math.MaxInt - 1, math.MaxInt}
}

// P13.2: each error by itself.
func TestAckOfWrongFrames(t *testing.T) {
	for _, kind := range wrongKinds() {
		f := told(20, 9, "\xff")
		f.Kind = kind
		expectRefused(t, f, api.ErrArg)
	}
	for _, session := range wrongSessions() {
		f := told(20, 9, "\xff")
		f.Session = session
		expectRefused(t, f, api.ErrSession)
	}
	for _, epoch := range wrongEpochs() {
		f := told(20, 9, "\xff")
		f.Epoch = epoch
		expectRefused(t, f, api.ErrEpoch)
	}
	for _, total := range wrongTotals() {
		expectRefused(t, told(total, 9, "\xff"), api.ErrIndex)
		expectRefused(t, told(total, total, "\xff"), api.ErrIndex)
		expectRefused(t, told(total, 0, ""), api.ErrIndex)
	}
	for _, index := range wrongIndexes() {
		expectRefused(t, told(20, index, "\xff"), api.ErrIndex)
		expectRefused(t, told(20, index, ""), api.ErrIndex)
	}
}

// P13.2: of several errors the one that the chapter names first.
func TestAckOfSeveralErrors(t *testing.T) {
	for some := 1; some < 32; some++ {
		f, want := told(20, 9, "\xff"), api.OK
		if some&16 != 0 {
			f.Index, want = 21, api.ErrIndex
		}
		if some&8 != 0 {
			f.Total, want = 19, api.ErrIndex
		}
		if some&4 != 0 {
			f.Epoch, want = 23, api.ErrEpoch
		}
		if some&2 != 0 {
			f.Session, want = -1, api.ErrSession
		}
		if some&1 != 0 {
			f.Kind, want = api.FData, api.ErrArg
		}
		expectRefused(t, f, want)
	}
	expectRefused(t, api.Frame{}, api.ErrArg)
	expectRefused(t, api.Frame{Kind: api.FAck}, api.ErrSession)
}

// P13.2: its own frames are none that it takes.
func TestAckOfItsOwnFrames(t *testing.T) {
	s, j := of(t, 9)
	list, _ := tick(t, s, j)
	for _, f := range list {
		if err := ack(t, s, j, f); err != api.ErrArg {
			t.Errorf("%#v: error %d", f, err)
		}
	}
}
