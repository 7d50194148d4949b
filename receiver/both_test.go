package receiver_test

import (
	"math/rand"
	"testing"

	"signpost/api"
	"signpost/receiver"
	"signpost/sack"
)

// drawnFrame: one that is often right for a receiver, and often of a chunk that isn't there.
func drawnFrame(source *rand.Rand, j *judge) api.Frame {
	f := api.Frame{Kind: 1, Session: j.session, Epoch: j.epoch, Index: source.Intn(j.total), Total: j.total, Data: text(source.Intn(20))}
	if source.Intn(3) > 0 {
		return f
	}
	for range 1 + source.Intn(2) {
		off := []int{-1, 1, -300, 300, 65536, 1 << 32}[source.Intn(6)]
		switch source.Intn(6) {
		case 0:
			f.Kind += off
		case 1:
			f.Session += off
		case 2:
			f.Epoch += off
		case 3:
			f.Total += off
		case 4:
			f.Index += off
		default:
			f.Data = text([]int{999, 1000, 1001, 65000, 65001}[source.Intn(5)])
		}
	}
	return f
}

// P14.1 to P14.4: drawn rows of frames; now and then the receiver begins anew from its cursor. Each error comes often.
func TestManyRows(t *testing.T) {
	source := rand.New(rand.NewSource(14))
	errs, done := map[api.Errno]int{}, 0
	for range 400 {
		n := 1 + source.Intn([]int{3, 20, 40, 256}[source.Intn(4)])
		r, j := made(t, source.Intn(1<<32), source.Intn(1<<32), n)
		for range 100 {
			if source.Intn(20) == 0 {
				r, j = expectResumed(t, r, j)
			}
			errs[take(t, r, j, drawnFrame(source, j))]++
		}
		if r.Done() {
			done++
		}
	}
	for _, err := range []api.Errno{api.OK, api.ErrArg, api.ErrSession, api.ErrEpoch, api.ErrIndex, api.ErrBig, api.ErrOnce} {
		if errs[err] < 100 {
			t.Errorf("error %d: only %d times", err, errs[err])
		}
	}
	if done < 50 {
		t.Errorf("only %d were done", done)
	}
}

// P14.2: what an FAck tells, merged into an empty map, is the receiver's, as far as 16 bits reach.
func TestAcksTellTheMap(t *testing.T) {
	source := rand.New(rand.NewSource(142))
	for range 300 {
		n := 1 + source.Intn(256)
		r, _ := of(t, n)
		for range source.Intn(3 * n) {
			r.Take(chunk(n, source.Intn(n), "x"))
		}
		f, there := r.Ack(), r.There()
		m, _ := sack.New(n)
		m.Merge(f.Index, f.Data)
		for i := range n {
			if want := there.Has(i) && i <= f.Index+16; m.Has(i) != want {
				t.Fatalf("of %d, base %d: chunk %d: %t", n, f.Index, i, m.Has(i))
			}
		}
	}
}

// drawnCursor: one of a drawn receiver.
func drawnCursor(source *rand.Rand) string {
	n := 1 + source.Intn([]int{2, 5, 20, 256}[source.Intn(4)])
	j := judgeOf(source.Intn(1<<32), source.Intn(300), n)
	for range source.Intn(12) {
		j.chunks[source.Intn(n)] = text(source.Intn(8))
	}
	return j.cursor()
}

// hurt: bytes of which one is another one, goes, or comes.
func hurt(source *rand.Rand, s string) string {
	at := source.Intn(len(s))
	some := string([]byte{[]byte{0, 1, 2, 3, 0x7f, 0x80, 0xff, byte(source.Intn(256))}[source.Intn(8)]})
	switch source.Intn(4) {
	case 0:
		return s[:at] + s[at+1:]
	case 1:
		return s[:at] + some + s[at:]
	case 2:
		return s[:at]
	default:
		return s[:at] + some + s[at+1:]
	}
}

// P14.3: any bytes near a cursor: what is wrong first, or the receiver whose cursor they are. Each error comes often.
func TestResumeOfHurtCursors(t *testing.T) {
	source := rand.New(rand.NewSource(143))
	errs := map[api.Errno]int{}
	for range 20_000 {
		s := drawnCursor(source)
		for range source.Intn(3) {
			if s != "" {
				s = hurt(source, s)
			}
		}
		_, _, err := resume(t, s)
		errs[err]++
	}
	for _, err := range []api.Errno{api.OK, api.ErrShort, api.ErrForm, api.ErrArg, api.ErrIndex, api.ErrOrder, api.ErrBig} {
		if errs[err] < 50 {
			t.Errorf("error %d: only %d times", err, errs[err])
		}
	}
}

// P14.3: all short bytes, of few values.
func TestResumeOfAllShortBytes(t *testing.T) {
	values := []byte{0, 1, 2, 3, 0x80}
	list := []string{""}
	for range 7 {
		var next []string
		for _, s := range list {
			if _, _, err := resume(t, "\x00\x01"+s); err != api.ErrShort {
				continue // what is wrong stays so, whatever stands behind
			}
			for _, b := range values {
				next = append(next, s+string([]byte{b}))
			}
		}
		list = next
	}
	for _, s := range list {
		resume(t, "\x00\x01"+s)
	}
}

// FuzzResume: P14.3, of any bytes.
func FuzzResume(f *testing.F) {
	for _, s := range cursors()[:5] {
		f.Add(s)
	}
	f.Add("")
	f.Add(head(1, 2, 2) + part(0, text(1001)) + number(2))
	f.Fuzz(func(t *testing.T, s string) { resume(t, s) })
}

// FuzzReceiver: P14.1 to P14.4, of any rows of frames: each byte is a chunk's number, or tells what is wrong.
func FuzzReceiver(f *testing.F) {
	f.Add(1, 2, 3, "\x00\x01\x02")
	f.Add(0, 1<<32-1, 20, "\x00\x80\x01\x02\x01\xf0\x00")
	f.Add(1<<32, 0, 256, "")
	f.Add(0, 0, 257, "\x00")
	f.Fuzz(func(t *testing.T, session, epoch, total int, row string) {
		if session < 0 || session > 1<<32-1 || epoch < 0 || epoch > 1<<32-1 || total < 1 || total > 256 {
			if r, err := receiver.New(session, epoch, total); r != nil || err != api.ErrArg {
				t.Fatalf("session %d, epoch %d, total %d: error %d", session, epoch, total, err)
			}
			return
		}
		r, j := made(t, session, epoch, total)
		for i, b := range []byte(row) {
			fr := api.Frame{Kind: 1, Session: session, Epoch: epoch, Index: int(b), Total: total, Data: row[i:min(len(row), i+3)]}
			if b >= 0x80 && b&1 == 1 {
				fr.Index = int(b & 0x7f)
				fr.Session += int(b>>1) & 1
				fr.Epoch += int(b>>2) & 1
				fr.Kind += int(b>>3) & 1
			}
			take(t, r, j, fr)
			if b == 0xfe {
				r, j = expectResumed(t, r, j)
			}
		}
	})
}
