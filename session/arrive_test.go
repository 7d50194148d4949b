package session

import (
	"slices"
	"strings"
	"testing"

	"signpost/api"
	"signpost/frame"
)

// A pipe's own links carry its own frames alone, and these are right, or hurt: what else may come is laid on a link here.

// laid: a pipe of a text of 100 bytes, with datagrams laid on its links.
func laid(t *testing.T, out, back []string) *Pipe {
	t.Helper()
	p, err := New(1, 2, long(), 64)
	if err != api.OK {
		t.Fatal(err)
	}
	for _, s := range out {
		p.out.Send(s, api.Fate{})
	}
	for _, s := range back {
		p.back.Send(s, api.Fate{})
	}
	return p
}

// long: 100 bytes, three chunks.
func long() string { return strings.Repeat("0123456789", 10) }

// printed: a frame as a datagram.
func printed(t *testing.T, f api.Frame) string {
	t.Helper()
	s, err := frame.Print(f)
	if err != api.OK {
		t.Fatalf("%v: error %d", f, err)
	}
	return s
}

// data and ack: frames of the pipe.
func data(i int, s string) api.Frame {
	return api.Frame{Kind: api.FData, Session: 1, Epoch: 2, Index: i, Total: 3, Data: s}
}

func ack(base int) api.Frame {
	return api.Frame{Kind: api.FAck, Session: 1, Epoch: 2, Index: base, Total: 3}
}

// strange are frames that may be, of the pipe's kind, but not of the pipe.
func strange(f api.Frame) []api.Frame {
	list := slices.Repeat([]api.Frame{f}, 6)
	list[0].Session = 2
	list[1].Epoch = 1
	list[2].Total = 4
	list[3].Total = 2
	list[4].Index = 4
	list[5].Session, list[5].Epoch = 2, 1
	return list
}

// noFrames are datagrams that are none.
func noFrames(t *testing.T) []string {
	t.Helper()
	one, two := printed(t, data(0, "abc")), printed(t, ack(3))
	return []string{"", "a", strings.Repeat("\x00", 19), strings.Repeat("\x01", 64), one[:len(one)-1], two[1:], one + "\x00", two + one, one[:len(one)-1] + "\x00", "\x03" + one[1:]}
}

// expectRun holds that the text is there, and known, behind a tick, and how many were dropped.
func expectRun(t *testing.T, p *Pipe, dropped int) {
	t.Helper()
	if err := p.Step(nil, nil); err != api.OK {
		t.Fatalf("error %d", err)
	}
	if s, err := p.Data(); s != long() || err != api.OK || !p.Done() || p.Dropped() != dropped {
		t.Fatalf("%q, error %d, done %t, %d dropped, not %d", s, err, p.Done(), p.Dropped(), dropped)
	}
	if p.out.Len() != 0 || p.back.Len() != 0 {
		t.Fatalf("%d and %d on the way", p.out.Len(), p.back.Len())
	}
}

// P16.2 and P2 of the whole: datagrams that are no frame are dropped, and counted; those behind them come.
func TestNoFrames(t *testing.T) {
	list := noFrames(t)
	expectRun(t, laid(t, nil, nil), 0)
	expectRun(t, laid(t, list, nil), len(list))
	expectRun(t, laid(t, nil, list), len(list))
	expectRun(t, laid(t, list, list), 2*len(list))
	for _, s := range list {
		expectRun(t, laid(t, []string{s}, nil), 1)
		expectRun(t, laid(t, nil, []string{s}), 1)
	}
}

// P16.2: frames of the wrong kind are dropped, and counted, and nobody takes them.
func TestFramesOfTheWrongKind(t *testing.T) {
	acks := []string{printed(t, ack(0)), printed(t, ack(3)), printed(t, strange(ack(3))[0])}
	datas := []string{printed(t, data(0, "no")), printed(t, data(2, "")), printed(t, strange(data(1, "a"))[1])}
	p := laid(t, acks, datas)
	expectRun(t, p, 6)
	for _, e := range []api.Errno{api.ErrArg, api.ErrSession, api.ErrEpoch, api.ErrIndex} {
		if p.receiver.Drops(e) != 0 {
			t.Errorf("error %d: refused", e)
		}
	}
}

// P16.2: what the receiver, or the sender, refuses is let go: it isn't counted, and those behind it come.
func TestRefusedFrames(t *testing.T) {
	var out, back []string
	for _, f := range strange(data(0, "no")) {
		out = append(out, printed(t, f))
	}
	for _, f := range strange(ack(3)) {
		back = append(back, printed(t, f))
	}
	p := laid(t, out, back)
	expectRun(t, p, 0)
	if p.receiver.Drops(api.ErrSession) != 2 || p.receiver.Drops(api.ErrEpoch) != 1 || p.receiver.Drops(api.ErrIndex) != 3 {
		t.Error("not handed to the receiver")
	}
	// An answer that is refused tells the sender nothing.
	p = laid(t, nil, back)
	if err := p.Step(nil, []api.Fate{{Kind: api.Drop}}); err != api.OK || p.Done() || p.Dropped() != 0 {
		t.Errorf("error %d, done %t, %d dropped", err, p.Done(), p.Dropped())
	}
}

// P16.2: a frame of the pipe's own is taken by the receiver, and heard by the sender, wherever it comes from.
func TestRightFrames(t *testing.T) {
	p := laid(t, []string{printed(t, data(1, "other"))}, nil)
	p.Step(nil, nil)
	if s, err := p.Data(); s != long()[:45]+"other"+long()[90:] || err != api.OK {
		t.Errorf("%q, error %d", s, err)
	}
	p = laid(t, nil, []string{printed(t, ack(3))})
	if err := p.Step([]api.Fate{{Kind: api.Drop}}, nil); err != api.OK || !p.Done() {
		t.Errorf("error %d, done %t", err, p.Done())
	}
	if err := p.Step(nil, nil); err != api.ErrDone {
		t.Errorf("error %d", err)
	}
}

// P16.2: Restart makes a receiver of the cursor: it has the chunks, and none of the refusals.
func TestRestartIsOfTheCursor(t *testing.T) {
	p := laid(t, []string{printed(t, data(0, "first")), printed(t, data(0, "again"))}, nil)
	p.Step([]api.Fate{{Kind: api.Drop}, {Kind: api.Drop}, {Kind: api.Drop}}, nil)
	before, cursor := p.receiver, p.receiver.Cursor()
	if before.Drops(api.ErrOnce) != 1 {
		t.Errorf("%d refused", before.Drops(api.ErrOnce))
	}
	if err := p.Restart(); err != api.OK {
		t.Fatal(err)
	}
	if p.receiver == before || p.receiver.Cursor() != cursor || p.receiver.Drops(api.ErrOnce) != 0 {
		t.Errorf("%x, %d refused", p.receiver.Cursor(), p.receiver.Drops(api.ErrOnce))
	}
}
