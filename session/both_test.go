package session_test

import (
	"math/rand"
	"testing"

	"signpost/api"
	"signpost/lz"
	"signpost/session"
	"signpost/table"
)

// drawnFate: any kind, so often of a hundred one that hurts or loses; N is often near an end of a datagram.
func drawnFate(source *rand.Rand, often int) api.Fate {
	f := api.Fate{Kind: []int{0, 0, 2, 3, 6, -1}[source.Intn(6)], N: source.Intn(600) - 50, Bits: source.Uint32()}
	if source.Intn(100) < often {
		f.Kind = []int{api.Drop, api.Flip, api.Cut}[source.Intn(3)]
	}
	if source.Intn(4) == 0 {
		f.Bits = 1 << source.Intn(32)
	}
	if source.Intn(20) == 0 {
		f.Bits = 0
	}
	if source.Intn(10) == 0 {
		f.N = int(source.Uint64())
	}
	return f
}

// drawnFates: fewer than so many.
func drawnFates(source *rand.Rand, many, often int) []api.Fate {
	list := make([]api.Fate, source.Intn(many))
	for i := range list {
		list[i] = drawnFate(source, often)
	}
	return list
}

// drawnPipe: one of a drawn text, and its judge.
func drawnPipe(t *testing.T, source *rand.Rand) (*session.Pipe, *judge) {
	t.Helper()
	mtu := []int{64, 64, 65, 80, 1018, 1019, 1500, 65535}[source.Intn(8)]
	s := make([]byte, source.Intn(size(mtu)*[]int{1, 4, 9, 20, 40}[source.Intn(5)]+1))
	source.Read(s)
	return made(t, int(source.Uint32()), int(source.Uint32()), string(s), mtu)
}

// P16.2 and P16.3: drawn texts, mtus and rows of fates, out and back, with Restart between: each answer by two readings of the words.
func TestDrawnPipes(t *testing.T) {
	source := rand.New(rand.NewSource(16))
	done, lost, both := 0, 0, 0
	for i := range 1500 {
		p, j := drawnPipe(t, source)
		out, back := []int{0, 20, 50, 80, 95, 99}[source.Intn(6)], []int{0, 20, 50, 80, 95, 99}[source.Intn(6)]
		for tick := range 90 {
			answer := drawnFates(source, 3, back)
			// Now and then none is heard till it is lost.
			if i%9 == 0 && tick < 34 {
				answer = fates(1, kind(api.Drop))
			}
			step(t, p, j, drawnFates(source, 10, out), answer)
			for source.Intn(4) == 0 {
				restart(t, p, j)
			}
		}
		switch {
		case p.Done() && j.lost:
			both++
		case p.Done():
			done++
		case j.lost:
			lost++
		}
	}
	if done < 300 || lost < 200 || both < 20 {
		t.Errorf("%d done, %d lost, %d both", done, lost, both)
	}
}

// P16.3: drawn fates by which nothing is hurt or lost: n / 8 ticks, rounded up.
func TestDrawnWhole(t *testing.T) {
	source := rand.New(rand.NewSource(163))
	for range 500 {
		p, j := drawnPipe(t, source)
		for range (len(j.sizes) + 7) / 8 {
			expectTold(t, p, false, false, 0)
			expectStep(t, p, j, drawnFates(source, 10, 0), drawnFates(source, 3, 0), api.OK)
		}
		expectTold(t, p, true, true, 0)
		expectStep(t, p, j, nil, nil, api.ErrDone)
	}
}

// hand hands a text from one to another one, whatever becomes of datagrams: what came, behind as many sessions as it takes.
func hand(t *testing.T, source *rand.Rand, s string) string {
	t.Helper()
	often := []int{0, 30, 60, 90}[source.Intn(4)]
	for epoch := range 40 {
		p, err := session.New(7, epoch, s, 64+source.Intn(100))
		if err != api.OK {
			t.Fatalf("%d bytes: error %d", len(s), err)
		}
		for p.Step(drawnFates(source, 10, often), drawnFates(source, 2, often)) == api.OK {
			if source.Intn(5) == 0 && p.Restart() != api.OK {
				t.Fatal("no receiver")
			}
		}
		if got, err := p.Data(); err == api.OK {
			return got
		}
		// One that never comes is tried again where more comes.
		often -= 10
	}
	t.Fatalf("%d bytes: none came", len(s))
	return ""
}

// few are prefixes over which drawn tables go, in no order.
func few() []api.Prefix {
	return []api.Prefix{six("\x0a", 8), {}, four(10, 1, 0, 0, 16), four(10, 0, 0, 0, 8), {Six: true}, four(10, 0, 0, 0, 9), six("\x20\x01", 128), four(255, 255, 255, 255, 32)}
}

// drawnPrefix: one of a few, or one of many.
func drawnPrefix(source *rand.Rand) api.Prefix {
	list := few()
	if i := source.Intn(2 * len(list)); i < len(list) {
		return list[i]
	}
	return nth(source.Intn(330))
}

// drawnTable: one of so many routes, or fewer.
func drawnTable(source *rand.Rand, n int) *table.Table {
	x := &table.Table{}
	for range source.Intn(n + 1) {
		x.Put(way(drawnPrefix(source), source.Intn(65535), source.Uint32()))
	}
	return x
}

// drawnRow: so many changes, or fewer, that can be done on a table one behind the other; they are done on it.
func drawnRow(source *rand.Rand, x *table.Table, n int) []api.Inc {
	var list []api.Inc
	for range n {
		p, metric, seq := drawnPrefix(source), source.Intn(65535), source.Uint32()
		i := row(add(p, metric, seq), change(p, metric, seq), withdraw(p))[source.Intn(3)]
		if x.Do(i) == api.OK {
			list = append(list, i)
		}
	}
	return list
}

// P16.4 and P1 of the whole: drawn tables, and rows of their changes, through pipes with drawn fates: the copy is the table.
func TestDrawnCopies(t *testing.T) {
	source := rand.New(rand.NewSource(164))
	for i := range 150 {
		x := drawnTable(source, []int{0, 5, 40, 600}[i%4])
		c := session.NewCopy()
		if err := c.Commit(hand(t, source, full(t, x))); err != api.OK {
			t.Fatalf("%d routes: error %d", x.Len(), err)
		}
		expectCopy(t, c, x, 1)
		for n := range 8 {
			list := drawnRow(source, x, []int{0, 3, 20, 200}[source.Intn(4)])
			if err := c.Commit(hand(t, source, part(t, list))); err != api.OK {
				t.Fatalf("%d changes: error %d", len(list), err)
			}
			expectCopy(t, c, x, n+2)
		}
	}
}

// P16.4: rows as table.Changes tells them, from each table to the next one, and one that withdraws all.
func TestChangesFromTableToTable(t *testing.T) {
	source := rand.New(rand.NewSource(1644))
	x := drawnTable(source, 60)
	c := session.NewCopy()
	expectCommit(t, c, tableOf(t), hand(t, source, full(t, x)), api.OK)
	for n := range 30 {
		y := drawnTable(source, 60)
		if n%5 == 4 {
			y = tableOf(t)
		}
		expectCommit(t, c, x, hand(t, source, part(t, table.Changes(x, y))), api.OK)
		expectCopy(t, c, y, n+2)
		x = y
	}
}

// P16.1: drawn tables and rows that are refused now and then, and texts that are none.
func TestDrawnCommits(t *testing.T) {
	source := rand.New(rand.NewSource(161))
	count := map[api.Errno]int{}
	for range 200 {
		x := tableOf(t)
		c := session.NewCopy()
		for range 20 {
			s := drawnSent(t, source, x)
			switch source.Intn(8) {
			case 0:
				s = s[:source.Intn(len(s))]
			case 1:
				b := []byte(s)
				b[source.Intn(len(b))] ^= 1 << source.Intn(8)
				s = string(b)
			}
			var err api.Errno
			x, err = commit(t, c, x, s)
			count[err]++
		}
	}
	for _, err := range []api.Errno{api.OK, api.ErrShort, api.ErrForm, api.ErrNone, api.ErrOnce} {
		if count[err] < 20 {
			t.Errorf("error %d: only %d", err, count[err])
		}
	}
}

// drawnSent: what is sent of a drawn table, or of changes of one that may be another one than is there.
func drawnSent(t *testing.T, source *rand.Rand, x *table.Table) string {
	t.Helper()
	other := x.Copy()
	if source.Intn(3) == 0 {
		other = drawnTable(source, 10)
	}
	if source.Intn(4) == 0 {
		return full(t, other)
	}
	return part(t, drawnRow(source, other, 12))
}

// FuzzPipe: P16.2 and P16.3, of any texts and rows: each byte is a Restart, or a Step with fates that the bytes behind it tell.
func FuzzPipe(f *testing.F) {
	f.Add([]byte("some text"), 64, []byte("\x00\x01\x02\x00"))
	f.Add([]byte(text(300)), 70, []byte("\x11\x01\x02\x0f\x23\x21\x42\x33\x51\x00\x00\x00\x00\x00\x00"))
	f.Add([]byte(text(900)), 64, []byte("\x07\x01\x09\x01\x02\x03\x04\x05\x06\x07\x08\x09\x0a"))
	f.Fuzz(func(t *testing.T, s []byte, mtu int, row []byte) {
		if len(s) > 5000 || len(row) > 300 {
			return
		}
		mtu = 64 + modulo(mtu, 200)
		if len(s) > 256*size(mtu) {
			return
		}
		p, j := made(t, 5, 6, string(s), mtu)
		next := func(n int) []api.Fate {
			var list []api.Fate
			for ; n > 0 && len(row) > 0; n-- {
				b := int(row[0])
				row = row[1:]
				list = append(list, api.Fate{Kind: b % 7, N: b/7*17 - 50, Bits: uint32(b / 7 * 0x01010101)})
			}
			return list
		}
		for len(row) > 0 {
			b := int(row[0])
			row = row[1:]
			if b%16 == 15 {
				restart(t, p, j)
				continue
			}
			step(t, p, j, next(b%16), next(b/16%3))
		}
	})
}

// FuzzCommit: P16.1, of any bytes, as they are and packed: what becomes of a copy is told by the judge.
func FuzzCommit(f *testing.F) {
	f.Add("\x01\x00\x02\x08\x0a\x01\x00")
	f.Add("\x02\x00\x02\x08\x0a\x01\x00\x00\x03\x10\x0a\x01\x02\x00")
	f.Add("\x02\x01\x08\x0a\x01\x00\x03\x18\x14\x00\x00")
	f.Fuzz(func(t *testing.T, s string) {
		x := tableOf(t, way(nth(0), 5, 6), way(four(10, 0, 0, 0, 8), 1, 2))
		commit(t, copyOf(t, x), x, s)
		p, err := lz.Pack(s)
		if err != api.OK {
			return
		}
		for _, first := range []string{"\x00", "\x01", "\x02", "\x03"} {
			commit(t, copyOf(t, x), x, first+s)
			commit(t, copyOf(t, x), x, first+p)
		}
	})
}
