package receiver_test

import (
	"math"
	"slices"
	"strings"
	"testing"

	"signpost/api"
	"signpost/receiver"
)

// P14.3: cursors, byte by byte, both ways.
func TestCursor(t *testing.T) {
	for _, c := range []struct {
		session, epoch, total int
		chunks                map[int]string
		want                  string
	}{
		{0, 0, 1, nil, "\x00\x00\x01\x01"},
		{0, 0, 1, map[int]string{0: ""}, "\x00\x00\x01\x00\x00\x01"},
		{1, 300, 4, map[int]string{3: "d", 1: "b"}, "\x01\xac\x02\x04\x01\x01b\x03\x01d\x04"},
		{127, 128, 2, map[int]string{0: "ab", 1: "\x00\xff\x80"}, "\x7f\x80\x01\x02\x00\x02ab\x01\x03\x00\xff\x80\x02"},
		{math.MaxUint32, 0, 3, map[int]string{2: ""}, "\xff\xff\xff\xff\x0f\x00\x03\x02\x00\x03"},
		{0, math.MaxUint32, 3, map[int]string{0: "\x03", 1: ""}, "\x00\xff\xff\xff\xff\x0f\x03\x00\x01\x03\x01\x00\x03"},
		{5, 6, 256, map[int]string{127: "x", 128: "y", 255: "z"}, "\x05\x06\x80\x02\x7f\x01x\x80\x01\x01y\xff\x01\x01z\x80\x02"},
		{5, 6, 128, map[int]string{1: text(128)}, "\x05\x06\x80\x01\x01\x80\x01" + text(128) + "\x80\x01"},
		{5, 6, 127, map[int]string{1: text(1000)}, "\x05\x06\x7f\x01\xe8\x07" + text(1000) + "\x7f"},
	} {
		r, j := made(t, c.session, c.epoch, c.total)
		for i, data := range c.chunks {
			expectTake(t, r, j, api.Frame{Kind: 1, Session: c.session, Epoch: c.epoch, Index: i, Total: c.total, Data: data}, api.OK)
		}
		if got := r.Cursor(); got != c.want {
			t.Errorf("%x, not %x", got, c.want)
		}
		q, err := receiver.Resume(c.want)
		if err != api.OK {
			t.Fatalf("%x: error %d", c.want, err)
		}
		hold(t, q, j)
	}
}

// P14.3 and P14.4: of none, of some and of all chunks, in whichever order they came: the cursor is the same, and one is resumed at each.
func TestCursorAtEachChunk(t *testing.T) {
	for _, n := range []int{1, 2, 16, 17, 18, 40, 256} {
		for _, order := range orders(n) {
			r, j := of(t, n)
			for _, i := range order {
				if n < 256 || i%16 == 0 {
					expectResumed(t, r, j)
				}
				r.Take(chunk(n, i, texts(n)[i]))
				j.take(chunk(n, i, texts(n)[i]))
			}
			q, k := expectResumed(t, r, j)
			if data, err := q.Data(); data != strings.Join(texts(n), "") || err != api.OK || len(k.chunks) != n {
				t.Errorf("of %d: %q, error %d", n, data, err)
			}
		}
	}
}

// P14.3: of a session and an epoch of any number.
func TestCursorOfNumbers(t *testing.T) {
	for _, session := range rightNumbers() {
		for _, epoch := range rightNumbers() {
			r, j := made(t, session, epoch, 3)
			expectTake(t, r, j, api.Frame{Kind: 1, Session: session, Epoch: epoch, Index: 2, Total: 3, Data: "c"}, api.OK)
			expectResumed(t, r, j)
		}
	}
}

// P14.3: every total, of all chunks that are there every other one.
func TestCursorOfTotals(t *testing.T) {
	for n := 1; n <= 256; n++ {
		r, j := of(t, n)
		for i := n % 2; i < n; i += 2 {
			r.Take(chunk(n, i, text(i)))
			j.take(chunk(n, i, text(i)))
		}
		expectResumed(t, r, j)
	}
}

// P14.3: refusals aren't in a cursor; the resumed one has none, those of the one ahead stay.
func TestCursorHasNoRefusals(t *testing.T) {
	r, j := with(t, 20, 4, 7)
	before := r.Cursor()
	for _, f := range []api.Frame{{}, chunk(20, 4, ""), chunk(20, 20, ""), chunk(20, 5, text(1001)), {Kind: 1, Session: 12, Epoch: 22, Total: 20}, {Kind: 1, Session: 11, Epoch: 23, Total: 20}} {
		take(t, r, j, f)
	}
	if r.Cursor() != before {
		t.Errorf("%x, not %x", r.Cursor(), before)
	}
	q, k := expectResumed(t, r, j)
	for _, e := range errors() {
		if q.Drops(e) != 0 {
			t.Errorf("%d of error %d", q.Drops(e), e)
		}
	}
	expectTake(t, q, k, chunk(20, 4, ""), api.ErrOnce)
	if q.Drops(api.ErrOnce) != 1 || r.Drops(api.ErrOnce) != 1 || r.Drops(api.ErrArg) != 1 {
		t.Errorf("%d and %d", q.Drops(api.ErrOnce), r.Drops(api.ErrOnce))
	}
}

// P14.4: the one ahead, those resumed of it, and those resumed of these, know nothing of each other.
func TestResumedOnesAreTheirOwn(t *testing.T) {
	r, j := with(t, 20, 4, 7)
	q, k := expectResumed(t, r, j)
	p, l := expectResumed(t, q, k)
	expectTake(t, q, k, chunk(20, 0, "of the second"), api.OK)
	hold(t, r, j)
	hold(t, p, l)
	expectTake(t, r, j, chunk(20, 0, "of the first"), api.OK)
	expectTake(t, p, l, chunk(20, 1, "of the third"), api.OK)
	expectTake(t, p, l, chunk(20, 1, "again"), api.ErrOnce)
	hold(t, r, j)
	hold(t, q, k)
}

// several: rows of frames for a receiver of n chunks: right ones, twice, and wrong ones.
func several(n int) []api.Frame {
	var list []api.Frame
	for _, i := range slices.Concat(orders(n)...) {
		f, g := chunk(n, i, texts(n)[i]), chunk(n, i, "other")
		g.Session += i % 3
		g.Epoch += i % 2
		list = append(list, g, f, chunk(n, n+i, ""), chunk(n, i, text(1001)), chunk(n+1, i, ""))
	}
	return list
}

// P14.4: wherever one is resumed, it answers just what the one ahead would have, and refuses as much behind that.
func TestResumedOneGoesOn(t *testing.T) {
	const n = 18
	frames := several(n)
	for at := 0; at < len(frames); at += 7 {
		r, j := of(t, n)
		for _, f := range frames[:at] {
			r.Take(f)
			j.take(f)
		}
		q, k := expectResumed(t, r, j)
		ahead := map[api.Errno]int{}
		for _, e := range errors() {
			ahead[e] = r.Drops(e)
		}
		for _, f := range frames[at:] {
			if one, two := take(t, r, j, f), take(t, q, k, f); one != two || r.Ack() != q.Ack() || r.Cursor() != q.Cursor() {
				t.Fatalf("%#v: error %d, and %d", f, one, two)
			}
		}
		for _, e := range errors() {
			if q.Drops(e) != r.Drops(e)-ahead[e] {
				t.Errorf("%d of error %d, not %d", q.Drops(e), e, r.Drops(e)-ahead[e])
			}
		}
	}
}
