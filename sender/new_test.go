package sender_test

import (
	"math"
	"slices"
	"testing"

	"signpost/api"
	"signpost/sender"
)

// P13.1: a new one: none is there, none was sent.
func TestNew(t *testing.T) {
	for _, n := range sizes() {
		s, j := of(t, n)
		if s.Done() || s.Err() != api.OK || s.There().Count() != 0 || s.There().Len() != n {
			t.Errorf("of %d: done %t, error %d, %d of %d there", n, s.Done(), s.Err(), s.There().Count(), s.There().Len())
		}
		for i := range n {
			if s.Tries(i) != 0 {
				t.Errorf("of %d: %d tries of %d", n, s.Tries(i), i)
			}
		}
		hold(t, s, j)
	}
}

// P13.1: any session and epoch that may be; the frames are of these, and FAcks of these are taken.
func TestNewOfNumbers(t *testing.T) {
	for _, session := range rightNumbers() {
		for _, epoch := range rightNumbers() {
			s, j := made(t, session, epoch, []string{"a", "b"})
			list, _ := tick(t, s, j)
			want := []api.Frame{
				{Kind: 1, Session: session, Epoch: epoch, Index: 0, Total: 2, Data: "a"},
				{Kind: 1, Session: session, Epoch: epoch, Index: 1, Total: 2, Data: "b"},
			}
			if !slices.Equal(list, want) {
				t.Errorf("%#v, not %#v", list, want)
			}
			if err := ack(t, s, j, api.Frame{Kind: api.FAck, Session: session, Epoch: epoch, Index: 2, Total: 2}); err != api.OK || !s.Done() {
				t.Errorf("session %d, epoch %d: error %d", session, epoch, err)
			}
		}
	}
}

// expectNone holds that there is no such sender.
func expectNone(t *testing.T, session, epoch int, chunks []string) {
	t.Helper()
	if s, err := sender.New(session, epoch, chunks); s != nil || err != api.ErrArg {
		t.Errorf("session %d, epoch %d, %d chunks: error %d", session, epoch, len(chunks), err)
	}
}

// P13.1: ErrArg, and no sender, of a session or an epoch that may not be, or of both.
func TestNewOfWrongNumbers(t *testing.T) {
	for _, wrong := range wrongNumbers() {
		for _, right := range rightNumbers() {
			expectNone(t, wrong, right, texts(3))
			expectNone(t, right, wrong, texts(3))
		}
		expectNone(t, wrong, wrong, texts(3))
		expectNone(t, wrong, wrong, nil)
	}
}

// P13.1: ErrArg, and no sender, of too few or too many chunks.
func TestNewOfWrongCounts(t *testing.T) {
	expectNone(t, 0, 0, nil)
	expectNone(t, 0, 0, []string{})
	expectNone(t, math.MaxUint32, math.MaxUint32, make([]string, 0, 10))
	for _, n := range []int{257, 258, 264, 511, 512, 513, 65536, 65537} {
		expectNone(t, 1, 2, make([]string, n))
		expectNone(t, 1, 2, texts(n))
	}
}

// P13.1: chunks of 0 to 1000 bytes, and ErrArg of one that has more, wherever it stands.
func TestNewOfLengths(t *testing.T) {
	for _, size := range []int{0, 1, 2, 999, 1000} {
		for _, n := range []int{1, 8, 256} {
			s, j := made(t, 1, 2, slices.Repeat([]string{text(size)}, n))
			if list, err := tick(t, s, j); err != api.OK || len(list) != min(n, 8) || list[0].Data != text(size) {
				t.Errorf("%d of %d bytes: %d frames, error %d", n, size, len(list), err)
			}
		}
	}
	for _, size := range []int{1001, 1002, 1256, 2000, 2024, 65536, 66000} {
		for _, n := range []int{1, 2, 8, 9, 256} {
			for _, at := range []int{0, n / 2, n - 1} {
				chunks := texts(n)
				chunks[at] = text(size)
				expectNone(t, 1, 2, chunks)
			}
		}
		expectNone(t, 1, 2, append(texts(256), text(size)))
	}
}

// P13.1: empty ones and greatest ones beside each other, each in its own frame.
func TestNewOfUnlikeChunks(t *testing.T) {
	chunks := []string{"", text(1000), "a", "", "\x00", text(999), "\xff\xfe", "ä"}
	s, j := made(t, 1, 2, chunks)
	list, _ := tick(t, s, j)
	for i, f := range list {
		if f.Data != chunks[i] {
			t.Errorf("%d: %q", i, f.Data)
		}
	}
	if len(list) != 8 {
		t.Error(len(list))
	}
}

// Rule 5: the list of chunks stays as it is, its spare room too; and what becomes of it the sender doesn't know.
func TestNewKeepsNoList(t *testing.T) {
	room := append(texts(12), "spare", "room")
	s, j := made(t, 11, 22, room[:12])
	tick(t, s, j)
	expectAck(t, s, j, 3, "\x01")
	tick(t, s, j)
	if !slices.Equal(room, append(texts(12), "spare", "room")) {
		t.Errorf("%q", room)
	}
	for i := range room {
		room[i] = text(2000)
	}
	for range 40 {
		tick(t, s, j)
	}
}

// Rule 7: two senders of one list know nothing of each other.
func TestTwoOfOneList(t *testing.T) {
	chunks := texts(20)
	one, j := made(t, 11, 22, chunks)
	two, k := made(t, 11, 22, chunks)
	tick(t, one, j)
	expectAck(t, one, j, 5, "\x0f")
	hold(t, two, k)
	for range 40 {
		tick(t, two, k)
	}
	expectTick(t, one, j, 10, 11, 12)
}
