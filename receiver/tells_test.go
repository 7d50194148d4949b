package receiver_test

import (
	"math"
	"strings"
	"testing"

	"signpost/api"
	"signpost/receiver"
)

// but: the numbers below n but these.
func but(n int, without ...int) []int {
	var list []int
	for i := range n {
		there := true
		for _, k := range without {
			there = there && i != k
		}
		if there {
			list = append(list, i)
		}
	}
	return list
}

// P14.2: FAcks, by hand: the base, and 16 bits of those behind it, the lowest first, no more.
func TestAck(t *testing.T) {
	for _, c := range []struct {
		n     int
		there []int
		base  int
		bits  string
	}{
		{1, nil, 0, "\x00\x00"}, {1, []int{0}, 1, "\x00\x00"},
		{2, nil, 0, "\x00\x00"}, {2, []int{0}, 1, "\x00\x00"}, {2, []int{1}, 0, "\x01\x00"}, {2, []int{0, 1}, 2, "\x00\x00"},
		{16, but(16, 0), 0, "\xff\x7f"}, {16, but(16, 15), 15, "\x00\x00"}, {16, but(16), 16, "\x00\x00"},
		{17, but(17, 0), 0, "\xff\xff"}, {17, []int{16}, 0, "\x00\x80"}, {17, but(17, 16), 16, "\x00\x00"},
		{18, but(18, 0), 0, "\xff\xff"}, {18, []int{17}, 0, "\x00\x00"}, {18, but(18, 1), 1, "\xff\xff"}, {18, []int{0, 17}, 1, "\x00\x80"},
		{20, []int{0, 1, 3, 10, 11, 19}, 2, "\x81\x01"}, {20, []int{0, 1, 3, 18, 19}, 2, "\x01\x80"},
		{256, but(256, 0), 0, "\xff\xff"}, {256, []int{255}, 0, "\x00\x00"}, {256, []int{17, 18, 255}, 0, "\x00\x00"}, {256, but(256, 238), 238, "\xff\xff"},
		{256, but(256, 239), 239, "\xff\xff"}, {256, but(256, 240), 240, "\xff\x7f"}, {256, but(256, 255), 255, "\x00\x00"}, {256, but(256), 256, "\x00\x00"},
		{256, but(256, 64, 65, 80), 64, "\xfe\x7f"}, {256, but(256, 64, 65, 81), 64, "\xfe\xff"},
	} {
		r, _ := of(t, c.n)
		for _, i := range c.there {
			r.Take(chunk(c.n, i, ""))
		}
		if got, want := r.Ack(), (api.Frame{Kind: 2, Session: 11, Epoch: 22, Index: c.base, Total: c.n, Data: c.bits}); got != want {
			t.Errorf("%v of %d: %#v, not %#v", c.there, c.n, got, want)
		}
	}
}

// P14.2: Data and Done, whichever one is missing: ErrState, and nothing, till it comes; that isn't counted.
func TestDataOfWhatIsMissing(t *testing.T) {
	for _, n := range []int{1, 2, 3, 16, 17, 18, 64, 65} {
		for missing := range n {
			r, j := of(t, n)
			for _, i := range but(n, missing) {
				r.Take(chunk(n, i, texts(n)[i]))
				j.take(chunk(n, i, texts(n)[i]))
			}
			hold(t, r, j)
			for range 3 {
				if data, err := r.Data(); data != "" || err != api.ErrState || r.Done() || r.Drops(api.ErrState) != 0 {
					t.Fatalf("all of %d but %d: %q, error %d, done %t", n, missing, data, err, r.Done())
				}
			}
			expectTaken(t, r, j, missing)
			if data, err := r.Data(); data != strings.Join(texts(n), "") || err != api.OK || !r.Done() {
				t.Fatalf("all of %d: %q, error %d, done %t", n, data, err, r.Done())
			}
		}
	}
	for _, missing := range []int{0, 63, 64, 128, 254, 255} {
		r, j := of(t, 256)
		for _, i := range but(256, missing) {
			r.Take(chunk(256, i, "x"))
			j.take(chunk(256, i, "x"))
		}
		hold(t, r, j)
		expectTake(t, r, j, chunk(256, missing, ""), api.OK)
		if data, err := r.Data(); len(data) != 255 || err != api.OK {
			t.Errorf("%d bytes, error %d", len(data), err)
		}
	}
}

// P14.2: of empty chunks all may be there, and what came is empty.
func TestDataOfNothing(t *testing.T) {
	for _, n := range []int{1, 2, 256} {
		r, j := of(t, n)
		for i := range n {
			if _, err := r.Data(); err != api.ErrState {
				t.Fatalf("%d of %d: error %d", i, n, err)
			}
			r.Take(chunk(n, i, ""))
			j.take(chunk(n, i, ""))
		}
		hold(t, r, j)
		if data, err := r.Data(); data != "" || err != api.OK || !r.Done() {
			t.Errorf("of %d: %q, error %d", n, data, err)
		}
	}
}

// P14.2: a map that was told, and the receiver, know nothing of each other.
func TestThere(t *testing.T) {
	r, j := with(t, 20, 0, 3)
	m, o := r.There(), r.There()
	m.Merge(20, "")
	hold(t, r, j)
	if o.Count() != 2 || !o.Has(0) || !o.Has(3) {
		t.Errorf("%d there", o.Count())
	}
	expectTaken(t, r, j, 1)
	expectTaken(t, r, j, 2)
	if o.Count() != 2 || o.Base() != 1 || !m.Full() {
		t.Errorf("%d there, base %d", o.Count(), o.Base())
	}
	o.Set(19)
	hold(t, r, j)
	expectTaken(t, r, j, 19)
}

// P14.2: each error is counted by itself; of one that never came, of none, and of one that there is not, 0.
func TestDrops(t *testing.T) {
	r, j := with(t, 20, 4)
	wrong := map[api.Errno]api.Frame{
		api.ErrArg:     {},
		api.ErrSession: {Kind: 1, Session: 12, Epoch: 22, Index: 9, Total: 20},
		api.ErrEpoch:   {Kind: 1, Session: 11, Epoch: 23, Index: 9, Total: 20},
		api.ErrIndex:   chunk(20, 20, ""),
		api.ErrBig:     chunk(20, 9, text(1001)),
		api.ErrOnce:    chunk(20, 4, ""),
	}
	list := []api.Errno{api.ErrArg, api.ErrSession, api.ErrEpoch, api.ErrIndex, api.ErrBig, api.ErrOnce}
	for n, e := range list {
		for range n + 1 {
			expectTake(t, r, j, wrong[e], e)
		}
		for k, other := range list {
			want := 0
			if k <= n {
				want = k + 1
			}
			if got := r.Drops(other); got != want {
				t.Errorf("%d of error %d, not %d", got, other, want)
			}
		}
	}
	r.Data()
	for _, e := range errors() {
		if _, is := wrong[e]; !is && r.Drops(e) != 0 {
			t.Errorf("%d of error %d", r.Drops(e), e)
		}
	}
	for range 10_000 {
		r.Take(api.Frame{})
	}
	if r.Drops(api.ErrArg) != 10_001 {
		t.Error(r.Drops(api.ErrArg))
	}
}

// P14.2: asking changes nothing, however often.
func TestAskingChangesNothing(t *testing.T) {
	r, j := of(t, 5)
	for _, i := range []int{3, 0, 4, 1, 2} {
		for range 5 {
			hold(t, r, j)
		}
		expectTaken(t, r, j, i)
		expectTake(t, r, j, chunk(5, i, ""), api.ErrOnce)
	}
}

// P14.3: each call of a nil *Receiver, however often.
func TestNil(t *testing.T) {
	var r *receiver.Receiver
	for range 2 {
		for _, f := range []api.Frame{{}, chunk(20, 3, "data"), chunk(20, 3, text(1001)), {Kind: api.FData}, {Kind: api.FAck}, {Kind: api.FData, Session: -1, Epoch: -1, Index: -1, Total: -1}} {
			if err := r.Take(f); err != api.ErrNil {
				t.Errorf("%#v: error %d", f, err)
			}
		}
		if data, err := r.Data(); data != "" || err != api.ErrNil {
			t.Errorf("%q, error %d", data, err)
		}
		if r.Ack() != (api.Frame{}) || r.Done() || r.There() != nil || r.Cursor() != "" {
			t.Errorf("FAck %#v, done %t, there %v, cursor %x", r.Ack(), r.Done(), r.There(), r.Cursor())
		}
		for _, e := range errors() {
			if r.Drops(e) != 0 {
				t.Errorf("%d of error %d", r.Drops(e), e)
			}
		}
	}
}

// Rule 1: a receiver that New didn't make: no call panics, it takes nothing, and there is no cursor of it.
func TestZeroValue(t *testing.T) {
	var r receiver.Receiver
	for range 3 {
		for _, c := range []struct {
			f    api.Frame
			want api.Errno
		}{{api.Frame{}, api.ErrArg}, {api.Frame{Kind: api.FData}, api.ErrIndex}, {api.Frame{Kind: api.FData, Total: 1}, api.ErrIndex}, {chunk(20, 3, "data"), api.ErrSession}, {api.Frame{Kind: api.FData, Index: math.MaxUint16}, api.ErrIndex}} {
			if err := r.Take(c.f); err != c.want {
				t.Errorf("%#v: error %d, not %d", c.f, err, c.want)
			}
		}
	}
	if data, err := r.Data(); data != "" || err != api.ErrState || r.Done() {
		t.Errorf("%q, error %d, done %t", data, err, r.Done())
	}
	if r.Ack().Kind != api.FAck || r.There().Count() != 0 || r.Drops(api.ErrIndex) != 9 {
		t.Errorf("FAck %#v, %d of ErrIndex", r.Ack(), r.Drops(api.ErrIndex))
	}
	if q, err := receiver.Resume(r.Cursor()); q != nil || err != api.ErrArg {
		t.Errorf("%x: error %d", r.Cursor(), err)
	}
}
