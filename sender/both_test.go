package sender_test

import (
	"math/rand"
	"testing"

	"signpost/api"
	"signpost/sack"
	"signpost/sender"
)

// drawnAck: an FAck that is often right, and often of what is near the window.
func drawnAck(source *rand.Rand, j *judge) api.Frame {
	base := source.Intn(len(j.chunks) + 1)
	if source.Intn(4) > 0 {
		base = 0
		for base < len(j.there) && (j.there[base] || len(j.sent[base]) > 0 && source.Intn(3) == 0) {
			base++
		}
	}
	bits := make([]byte, source.Intn(4))
	source.Read(bits)
	f := api.Frame{Kind: api.FAck, Session: j.session, Epoch: j.epoch, Index: base, Total: len(j.chunks), Data: string(bits)}
	if source.Intn(5) > 0 {
		return f
	}
	for range 1 + source.Intn(2) {
		off := []int{-1, 1, -300, 300, 1 << 32}[source.Intn(5)]
		switch source.Intn(5) {
		case 0:
			f.Kind += off
		case 1:
			f.Session += off
		case 2:
			f.Epoch += off
		case 3:
			f.Total += off
		default:
			f.Index += off
		}
	}
	return f
}

// P13.1 and P13.2: drawn rows of ticks and FAcks; each end comes often.
func TestManyRows(t *testing.T) {
	source := rand.New(rand.NewSource(13))
	ends := map[api.Errno]int{}
	for row := range 1500 {
		n := sizes()[source.Intn(len(sizes()))]
		s, j := made(t, source.Intn(1<<32), source.Intn(1<<32), texts(n))
		rare := []int{2, 4, 8, 20, 50}[row%5]
		for range 60 {
			if source.Intn(rare) == 0 {
				ack(t, s, j, drawnAck(source, j))
			} else {
				tick(t, s, j)
			}
		}
		ends[s.Err()]++
	}
	for _, err := range []api.Errno{api.OK, api.ErrDone, api.ErrLost} {
		if ends[err] < 50 {
			t.Errorf("error %d: only %d rows", err, ends[err])
		}
	}
}

// P13.1 and P13.2: whatever frames and FAcks are lost, a sender ends: what it sends comes, or it is lost; and it tells ErrDone only where all came.
func TestWithLostFrames(t *testing.T) {
	source := rand.New(rand.NewSource(1313))
	ends := map[api.Errno]int{}
	for range 600 {
		n := 1 + source.Intn(256)
		s, j := of(t, n)
		m, _ := sack.New(n)
		often := source.Intn(100)
		for s.Err() == api.OK {
			list, _ := tick(t, s, j)
			for _, f := range list {
				if source.Intn(100) >= often {
					m.Set(f.Index)
				}
			}
			if source.Intn(100) >= often {
				expectAck(t, s, j, m.Base(), m.Behind(16))
			}
			if j.ticks > 33*n {
				t.Fatalf("of %d: tick %d, and no end", n, j.ticks)
			}
		}
		if s.Done() && !m.Full() {
			t.Fatalf("of %d: done, but %d came", n, m.Count())
		}
		ends[s.Err()]++
	}
	if ends[api.ErrDone] < 50 || ends[api.ErrLost] < 50 {
		t.Errorf("%d were done, %d lost", ends[api.ErrDone], ends[api.ErrLost])
	}
}

// FuzzSender: P13.1 and P13.2, of any rows of calls: each byte is a tick, or an FAck that the bytes behind it tell.
func FuzzSender(f *testing.F) {
	f.Add(3, 1, 2, "\x00\x00\x00\x00\x00")
	f.Add(20, 0, 1<<32-1, "\x00\x00\x01\x02\x01\x00\x00")
	f.Add(256, 1<<32, 0, "\x00\x01\xff\xff")
	f.Add(9, -1, 0, "\x02\x09\x00")
	f.Fuzz(func(t *testing.T, n, session, epoch int, row string) {
		if n < 1 || n > 256 || session < 0 || session > 1<<32-1 || epoch < 0 || epoch > 1<<32-1 {
			if s, err := sender.New(session, epoch, texts(max(0, min(n, 300)))); s != nil || err != api.ErrArg {
				t.Fatalf("session %d, epoch %d, %d chunks: error %d", session, epoch, n, err)
			}
			return
		}
		s, j := made(t, session, epoch, texts(n))
		for len(row) > 0 {
			kind := row[0]
			row = row[1:]
			if kind%2 == 0 || len(row) < 2 {
				tick(t, s, j)
				continue
			}
			ack(t, s, j, api.Frame{Kind: api.FAck, Session: session, Epoch: epoch, Index: int(row[0]) + int(kind/128), Total: n, Data: row[1:min(len(row), 1+int(kind/8))]})
			row = row[1:]
		}
	})
}
