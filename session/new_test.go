package session_test

import (
	"math"
	"strings"
	"testing"

	"signpost/api"
	"signpost/session"
)

// expectNone holds that there is no pipe, and why.
func expectNone(t *testing.T, number, epoch int, s string, mtu int, want api.Errno) {
	t.Helper()
	if p, err := session.New(number, epoch, s, mtu); p != nil || err != want {
		t.Errorf("session %d, epoch %d, %d bytes, mtu %d: %v, error %d; not %d", number, epoch, len(s), mtu, p, err, want)
	}
}

// wrongMTUs are some that may not be, which partly are in their lowest bits.
func wrongMTUs() []int {
	return []int{math.MinInt, -1 << 32, -64, -1, 0, 1, 18, 19, 20, 63, 65536, 65537, 1<<16 + 64, 1<<32 + 64, 1<<32 + 65535, math.MaxInt}
}

// P16.2: a new one: nothing came, nothing was dropped, and the sender knows of nothing; an empty text isn't there yet, either.
func TestNew(t *testing.T) {
	for _, mtu := range []int{64, 65, 100, 1018, 1019, 1020, 1500, 65534, 65535} {
		for _, n := range []int{0, 1, 44, 45, 46, 90, 1000, 1001} {
			p, _ := made(t, 1, 2, text(n), mtu)
			expectTold(t, p, false, false, 0)
			if s, err := p.Data(); s != "" || err != api.ErrState {
				t.Errorf("%d bytes, mtu %d: %q, error %d", n, mtu, s, err)
			}
		}
	}
}

// P16.2: all numbers of a session and an epoch that there are.
func TestNewOfNumbers(t *testing.T) {
	for _, number := range rightNumbers() {
		for _, epoch := range rightNumbers() {
			p, j := made(t, number, epoch, text(100), 64)
			expectEnd(t, p, j, 1)
		}
	}
}

// P16.2: chunk.Cut's ErrArg of an mtu, ahead of all others.
func TestNewOfWrongMTU(t *testing.T) {
	for _, mtu := range wrongMTUs() {
		for _, s := range []string{"", "a", text(300_000)} {
			expectNone(t, 1, 2, s, mtu, api.ErrArg)
			expectNone(t, -1, 1<<32, s, mtu, api.ErrArg)
		}
	}
}

// P16.2: chunk.Cut's ErrBig of a text, ahead of what is wrong with numbers; of one byte less there is a pipe.
func TestNewOfLongTexts(t *testing.T) {
	for _, c := range []struct{ mtu, most int }{{64, 256 * 45}, {65, 256 * 46}, {1018, 256 * 999}, {1019, 256_000}, {1020, 256_000}, {65535, 256_000}} {
		long := strings.Repeat("a", c.most+1000)
		made(t, 1, 2, long[:c.most], c.mtu)
		for _, n := range []int{c.most + 1, c.most + 2, c.most + 1000} {
			expectNone(t, 1, 2, long[:n], c.mtu, api.ErrBig)
			for _, wrong := range wrongNumbers() {
				expectNone(t, wrong, 2, long[:n], c.mtu, api.ErrBig)
				expectNone(t, 1, wrong, long[:n], c.mtu, api.ErrBig)
			}
		}
		expectNone(t, -1, 2, long[:c.most], c.mtu, api.ErrArg)
		expectNone(t, 1, 1<<32, long[:c.most], c.mtu, api.ErrArg)
	}
}

// P16.2: sender.New's and receiver.New's ErrArg of numbers that are no session's, or no epoch's.
func TestNewOfWrongNumbers(t *testing.T) {
	for _, wrong := range wrongNumbers() {
		for _, right := range rightNumbers() {
			for _, s := range []string{"", "a", text(100)} {
				expectNone(t, wrong, right, s, 64, api.ErrArg)
				expectNone(t, right, wrong, s, 64, api.ErrArg)
			}
		}
		for _, other := range wrongNumbers() {
			expectNone(t, wrong, other, "a", 64, api.ErrArg)
		}
	}
}

// Rule 6: calls of a nil *Pipe.
func TestNilPipe(t *testing.T) {
	var p *session.Pipe
	for _, list := range [][]api.Fate{nil, whole(), bad()} {
		if err := p.Step(list, list); err != api.ErrNil {
			t.Errorf("error %d", err)
		}
		if err := p.Restart(); err != api.ErrNil {
			t.Errorf("error %d", err)
		}
		if s, err := p.Data(); s != "" || err != api.ErrNil {
			t.Errorf("%q, error %d", s, err)
		}
		if p.Done() || p.Dropped() != 0 {
			t.Errorf("done %t, %d dropped", p.Done(), p.Dropped())
		}
	}
}

// Rule 1: a pipe that New didn't make has nothing to send, and nobody who takes it; none of its calls panics.
func TestZeroPipe(t *testing.T) {
	p := &session.Pipe{}
	for _, list := range [][]api.Fate{nil, whole(), bad()} {
		if err := p.Step(list, list); err == api.OK {
			t.Error("sent")
		}
		if err := p.Restart(); err == api.OK {
			t.Error("began anew")
		}
		if s, err := p.Data(); s != "" || err == api.OK {
			t.Errorf("%q, error %d", s, err)
		}
		if p.Done() || p.Dropped() != 0 {
			t.Errorf("done %t, %d dropped", p.Done(), p.Dropped())
		}
	}
}
