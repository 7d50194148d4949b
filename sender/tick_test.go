package sender_test

import (
	"testing"

	"signpost/api"
)

// P13.1: the chapter's example, and that each of the eight tries comes four ticks behind the one ahead, and then all is lost.
func TestTick(t *testing.T) {
	s, j := of(t, 3)
	for try := range 8 {
		expectTick(t, s, j, 0, 1, 2)
		for i := range 3 {
			if s.Tries(i) != try+1 {
				t.Fatalf("%d tries of %d, not %d", s.Tries(i), i, try+1)
			}
		}
		expectTick(t, s, j)
		expectTick(t, s, j)
		expectTick(t, s, j)
	}
	for range 10 {
		expectEnd(t, s, j, api.ErrLost)
		if s.Err() != api.ErrLost || s.Done() || s.Tries(0) != 8 || s.Tries(2) != 8 {
			t.Fatalf("error %d, %d tries", s.Err(), s.Tries(0))
		}
	}
}

// P13.1: at the fourth tick behind its own, not at the third one, nor at the fifth; a chunk that is sent later is counted from its own tick.
func TestTickOfUnlikeTicks(t *testing.T) {
	s, j := of(t, 30)
	expectTick(t, s, j, 0, 1, 2, 3, 4, 5, 6, 7)
	expectAck(t, s, j, 2, "")
	expectTick(t, s, j, 8, 9)
	expectAck(t, s, j, 3, "")
	expectTick(t, s, j, 10)
	expectTick(t, s, j)
	expectAck(t, s, j, 4, "")
	expectTick(t, s, j, 4, 5, 6, 7, 11) // the fourth behind the first one
	expectTick(t, s, j, 8, 9)
	expectTick(t, s, j, 10)
	expectTick(t, s, j)
	expectTick(t, s, j, 4, 5, 6, 7, 11)
	expectAck(t, s, j, 12, "")
	expectTick(t, s, j, 12, 13, 14, 15, 16, 17, 18, 19)
	expectTick(t, s, j)
	expectTick(t, s, j)
	expectTick(t, s, j)
	expectTick(t, s, j, 12, 13, 14, 15, 16, 17, 18, 19)
}

// P13.1: the first window of each size.
func TestTickOfSizes(t *testing.T) {
	for n := 1; n <= 256; n++ {
		s, j := of(t, n)
		expectTick(t, s, j, upTo(0, min(n, 8))...)
		expectTick(t, s, j)
		expectTick(t, s, j)
		expectTick(t, s, j)
		expectTick(t, s, j, upTo(0, min(n, 8))...)
	}
}

// P13.1: a window from each chunk on, to the last ones, and beyond them.
func TestTickOfEachWindow(t *testing.T) {
	for _, n := range sizes() {
		for base := range n {
			s, j := of(t, n)
			expectAck(t, s, j, base, "")
			expectTick(t, s, j, upTo(base, min(n, base+8))...)
		}
	}
}

// P13.1: those of the window that are there count for it, but aren't sent.
func TestTickOfGaps(t *testing.T) {
	for _, c := range []struct {
		n     int
		there []int
		want  []int
	}{
		{20, []int{1}, []int{0, 2, 3, 4, 5, 6, 7}},
		{20, []int{1, 2, 3, 4, 5, 6}, []int{0, 7}},
		{20, []int{1, 2, 3, 4, 5, 6, 7}, []int{0}},
		{20, []int{1, 2, 3, 4, 5, 6, 7, 8, 9, 10}, []int{0}},
		{20, []int{8, 9}, []int{0, 1, 2, 3, 4, 5, 6, 7}},
		{20, []int{0, 2, 4, 6, 8, 10}, []int{1, 3, 5, 7}},
		{20, []int{0, 1, 2, 3, 5, 8, 13}, []int{4, 6, 7, 9, 10, 11}},
		{20, upTo(0, 19), []int{19}},
		{20, upTo(1, 20), []int{0}},
		{20, append(upTo(0, 12), 13, 18), []int{12, 14, 15, 16, 17, 19}},
		{20, append(upTo(0, 11), 12, 19), []int{11, 13, 14, 15, 16, 17, 18}},
		{256, upTo(1, 256), []int{0}},
		{256, upTo(0, 255), []int{255}},
		{256, append(upTo(0, 249), upTo(250, 255)...), []int{249, 255}},
		{9, upTo(1, 8), []int{0}},
		{9, upTo(1, 9), []int{0}},
		{8, upTo(1, 7), []int{0, 7}},
		{2, []int{1}, []int{0}},
		{1, nil, []int{0}},
	} {
		s, j := of(t, c.n)
		base, bits := bitsOf(c.n, c.there)
		expectAck(t, s, j, base, bits)
		expectTick(t, s, j, c.want...)
	}
}

// P13.1: the window goes on as its first one comes, and not as others do; what enters it is sent at once.
func TestTickAsTheWindowGoesOn(t *testing.T) {
	s, j := of(t, 20)
	expectTick(t, s, j, 0, 1, 2, 3, 4, 5, 6, 7)
	expectAck(t, s, j, 0, "\x7f") // all but 0
	expectTick(t, s, j)
	expectAck(t, s, j, 8, "")
	expectTick(t, s, j, 8, 9, 10, 11, 12, 13, 14, 15)
	expectAck(t, s, j, 8, "\xff\x07") // all but 8
	expectTick(t, s, j)
	expectTick(t, s, j)
	expectTick(t, s, j)
	expectTick(t, s, j, 8)
	expectAck(t, s, j, 9, "")
	expectEnd(t, s, j, api.ErrDone)
}

// P13.1: where each FAck comes at once, n chunks take n / 8 ticks, and each one try.
func TestTickWhenAllComes(t *testing.T) {
	for _, n := range sizes() {
		s, j := of(t, n)
		for at := 0; at < n; at += 8 {
			expectTick(t, s, j, upTo(at, min(n, at+8))...)
			expectAck(t, s, j, min(n, at+8), "")
		}
		expectEnd(t, s, j, api.ErrDone)
		for i := range n {
			if s.Tries(i) != 1 {
				t.Errorf("of %d: %d tries of %d", n, s.Tries(i), i)
			}
		}
	}
}

// P13.1: ErrDone from the tick on at which all are there, and nothing goes on.
func TestTickOfDone(t *testing.T) {
	for _, n := range sizes() {
		for ticks := range 6 {
			s, j := of(t, n)
			for range ticks {
				tick(t, s, j)
			}
			expectAck(t, s, j, n, "")
			for range 40 {
				expectEnd(t, s, j, api.ErrDone)
			}
			if !s.Done() || s.Err() != api.ErrDone {
				t.Errorf("of %d: done %t, error %d", n, s.Done(), s.Err())
			}
		}
	}
}
