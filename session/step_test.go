package session_test

import (
	"math"
	"slices"
	"testing"

	"signpost/api"
)

// P16.3: all delivered, n chunks are there behind n / 8 ticks, rounded up, and no sooner; the sender knows.
func TestAllDelivered(t *testing.T) {
	for n := 1; n <= 256; n++ {
		p, j := of(t, n)
		expectEnd(t, p, j, (n+7)/8)
		expectTold(t, p, true, true, 0)
	}
}

// P16.3: the example: 20 chunks, three ticks.
func TestTwentyChunks(t *testing.T) {
	p, j := of(t, 20)
	for range 3 {
		expectTold(t, p, false, false, 0)
		expectStep(t, p, j, nil, nil, api.OK)
	}
	expectTold(t, p, true, true, 0)
	expectStep(t, p, j, nil, nil, api.ErrDone)
}

// P16.3: a text of no bytes is one chunk, which takes a tick.
func TestEmptyText(t *testing.T) {
	p, j := made(t, 0, 0, "", 64)
	expectEnd(t, p, j, 1)
	p, j = made(t, 0, 0, "", 64)
	expectStep(t, p, j, fates(1, kind(api.Drop)), nil, api.OK)
	expectTold(t, p, false, false, 0)
	expectStep(t, p, j, nil, nil, api.OK)
	expectStep(t, p, j, nil, nil, api.OK)
	expectStep(t, p, j, nil, nil, api.OK)
	expectEnd(t, p, j, 1)
	// Its frame is hurt like any other.
	p, j = made(t, 0, 0, "", 65535)
	expectStep(t, p, j, fates(1, api.Fate{Kind: api.Flip, N: 8*19 - 1, Bits: 2}), nil, api.OK)
	expectTold(t, p, true, true, 0)
	p, j = made(t, 0, 0, "", 65535)
	expectStep(t, p, j, fates(1, api.Fate{Kind: api.Flip, N: 8*19 - 1, Bits: 1}), nil, api.OK)
	expectTold(t, p, false, false, 1)
}

// P16.3: as many bytes as there may be, of any datagram's size.
func TestGreatTexts(t *testing.T) {
	for _, c := range []struct{ bytes, mtu, ticks int }{{256_000, 65535, 32}, {256_000, 1019, 32}, {255_744, 1018, 32}, {11_520, 64, 32}, {1000, 65535, 1}, {8000, 65535, 1}, {8001, 65535, 2}, {8001, 1020, 2}, {7993, 1018, 2}, {7992, 1018, 1}} {
		p, j := made(t, 3, 4, text(c.bytes), c.mtu)
		expectEnd(t, p, j, c.ticks)
	}
}

// P16.3: fates by which nothing is hurt or lost: as many ticks, and nothing is dropped; what comes twice, or late, comes in that tick.
func TestWhole(t *testing.T) {
	mixed := whole()
	for _, n := range counts() {
		for _, f := range whole() {
			p, j := of(t, n)
			for range (n + 7) / 8 {
				expectStep(t, p, j, fates(8, f), fates(1, f), api.OK)
			}
			expectTold(t, p, true, true, 0)
			expectStep(t, p, j, fates(8, f), fates(1, f), api.ErrDone)
			expectTold(t, p, true, true, 0)
		}
		p, j := of(t, n)
		for tick := range (n + 7) / 8 {
			expectStep(t, p, j, mixed[tick%5:], mixed[tick%8:], api.OK)
		}
		expectTold(t, p, true, true, 0)
	}
}

// P16.2: one chunk of a tick that isn't delivered: the window stays where it is, till that one is sent again, four ticks later.
func TestOneIsMissing(t *testing.T) {
	for at := range 8 {
		for _, f := range bad() {
			p, j := of(t, 20)
			row := fates(at, api.Fate{})
			dropped := 1
			if f.Kind == api.Drop {
				dropped = 0
			}
			expectStep(t, p, j, append(row, f), nil, api.OK)
			expectTold(t, p, false, false, dropped)
			// At the second tick come those up to 7 + at, at the fifth one that chunk, then eight more a tick.
			if at < 4 {
				expectEnd(t, p, j, 6)
			} else {
				expectEnd(t, p, j, 5)
			}
			expectTold(t, p, true, true, dropped)
		}
	}
}

// P16.2: none of a tick comes: all are sent again at the fourth tick behind it.
func TestNoneComes(t *testing.T) {
	for _, f := range bad() {
		p, j := of(t, 8)
		expectStep(t, p, j, fates(8, f), nil, api.OK)
		dropped := 8
		if f.Kind == api.Drop {
			dropped = 0
		}
		expectTold(t, p, false, false, dropped)
		for range 3 {
			expectStep(t, p, j, nil, nil, api.OK)
			expectTold(t, p, false, false, dropped)
		}
		expectStep(t, p, j, nil, nil, api.OK)
		expectTold(t, p, true, true, dropped)
	}
}

// P16.2: fates go by the place among the datagrams of this tick, from the front; those behind the last datagram do nothing, and none is left for the next tick.
func TestFatesByPlace(t *testing.T) {
	for _, n := range []int{0, 1, 3, 7, 8, 9, 20, 300} {
		p, j := of(t, 12)
		row := fates(n, kind(api.Drop))
		expectStep(t, p, j, row, nil, api.OK)
		expectTold(t, p, false, false, 0)
		for !p.Done() {
			expectStep(t, p, j, nil, nil, api.OK)
		}
	}
	// At the second tick there are but four datagrams.
	p, j := of(t, 12)
	expectStep(t, p, j, nil, nil, api.OK)
	expectStep(t, p, j, append(fates(4, api.Fate{}), fates(8, kind(api.Drop))...), nil, api.OK)
	expectTold(t, p, true, true, 0)
	// Fates of a tick at which nothing is sent.
	p, j = of(t, 8)
	expectStep(t, p, j, fates(1, kind(api.Drop)), nil, api.OK)
	for range 3 {
		expectStep(t, p, j, fates(9, flip(1)), nil, api.OK)
	}
	expectStep(t, p, j, nil, nil, api.OK)
	expectTold(t, p, true, true, 0)
}

// P16.2: each fate out by itself, at each place, with another one at each other place.
func TestFatesAtEachPlace(t *testing.T) {
	for _, f := range append(whole(), bad()...) {
		for _, other := range append(whole(), bad()...) {
			for at := range 9 {
				p, j := of(t, 9)
				row := fates(9, other)
				row[at] = f
				for range 12 {
					step(t, p, j, row, nil)
				}
			}
		}
	}
}

// P16.2: of the fates back the first one alone counts: there is one answer a tick.
func TestFatesOfTheAnswer(t *testing.T) {
	for _, f := range bad() {
		p, j := of(t, 8)
		dropped := 0
		if f.Kind != api.Drop {
			dropped = 1
		}
		expectStep(t, p, j, nil, []api.Fate{f}, api.OK)
		expectTold(t, p, true, false, dropped)
		expectStep(t, p, j, nil, append([]api.Fate{{}}, bad()...), api.OK)
		expectTold(t, p, true, true, dropped)
		expectStep(t, p, j, nil, nil, api.ErrDone)
	}
	for _, f := range whole() {
		p, j := of(t, 8)
		expectStep(t, p, j, nil, append([]api.Fate{f}, bad()...), api.OK)
		expectTold(t, p, true, true, 0)
	}
}

// P16.2: a fate of the way out isn't one of the way back.
func TestFatesOutAreNotBack(t *testing.T) {
	p, j := of(t, 8)
	expectStep(t, p, j, fates(20, flip(3)), nil, api.OK)
	expectTold(t, p, false, false, 8)
	p, j = of(t, 8)
	expectStep(t, p, j, nil, fates(20, flip(3)), api.OK)
	expectTold(t, p, true, false, 1)
}

// P16.2: what is late comes in its tick, behind the next one or behind all; the other frames and the answer don't wait.
func TestLate(t *testing.T) {
	late := kind(api.Late)
	for _, row := range [][]api.Fate{fates(8, late), append(fates(7, api.Fate{}), late), append(fates(1, late), kind(api.Drop)), append(fates(7, late), kind(api.Drop))} {
		p, j := of(t, 8)
		expectStep(t, p, j, row, fates(1, late), api.OK)
		missing := slices.Contains(row, kind(api.Drop))
		expectTold(t, p, !missing, !missing, 0)
	}
}

// P16.2: a flip of no bits hurts nothing; nor does one whose bits are all behind the datagram's end; each other one hurts.
func TestFlips(t *testing.T) {
	// A frame of 45 bytes of Data has 64, an answer 21.
	for _, c := range []struct {
		n    int
		bits uint32
		out  bool // does it hurt what goes out?
		back bool // or what goes back?
	}{
		{0, 0, false, false}, {17, 0, false, false}, {-1, 0, false, false},
		{0, 1, true, true}, {0, 1 << 31, true, true}, {511, 1, true, true}, {511, 2, false, true}, {511, math.MaxUint32 - 1, false, true}, {512, 1, true, true},
		{167, 1, true, true}, {167, 2, true, false}, {167, math.MaxUint32 - 1, true, false}, {168, 1, true, true}, {480, 1 << 31, true, false}, {481, 1 << 31, false, false}, {136, 1 << 31, true, true}, {137, 1 << 31, true, false},
		// 2^64 is 0 modulo 512, and 16 modulo 168.
		{-1, 1, true, true}, {-1, 2, false, true}, {-17, 1, true, true}, {-17, 2, true, false}, {math.MinInt, 1, true, true}, {math.MaxInt, 2, false, true},
	} {
		f := api.Fate{Kind: api.Flip, N: c.n, Bits: c.bits}
		p, j := made(t, 1, 2, text(45), 64)
		expectStep(t, p, j, []api.Fate{f}, nil, api.OK)
		if _, err := p.Data(); (err == api.OK) == c.out || (p.Dropped() == 1) != c.out {
			t.Errorf("%v, out: error %d, %d dropped", f, err, p.Dropped())
		}
		p, j = made(t, 1, 2, text(45), 64)
		expectStep(t, p, j, nil, []api.Fate{f}, api.OK)
		if p.Done() == c.back || (p.Dropped() == 1) != c.back {
			t.Errorf("%v, back: done %t, %d dropped", f, p.Done(), p.Dropped())
		}
	}
}

// P16.2 and P2 of the whole: each bit of a datagram, and each cut, is told.
func TestEachBitAndCut(t *testing.T) {
	for i := range 8 * 64 {
		p, j := made(t, 1, 2, text(45), 64)
		expectStep(t, p, j, fates(1, api.Fate{Kind: api.Flip, N: i, Bits: 1}), nil, api.OK)
		expectTold(t, p, false, false, 1)
		expectStep(t, p, j, nil, fates(1, api.Fate{Kind: api.Cut, N: i}), api.OK)
		expectTold(t, p, false, false, 2)
		expectStep(t, p, j, nil, fates(1, api.Fate{Kind: api.Flip, N: i, Bits: 1}), api.OK)
		expectTold(t, p, false, false, 3)
		step(t, p, j, nil, nil)
		expectStep(t, p, j, fates(1, api.Fate{Kind: api.Cut, N: i}), nil, api.OK)
		expectTold(t, p, false, false, 4)
	}
}

// P16.2: a frame that comes twice is taken once, and isn't dropped the second time; nor is one that is sent again while it is there.
func TestTwiceIsNotDropped(t *testing.T) {
	p, j := of(t, 3)
	twice := fates(3, kind(api.Twice))
	for range 9 {
		expectStep(t, p, j, twice, fates(1, kind(api.Drop)), api.OK)
		expectTold(t, p, true, false, 0)
	}
	expectStep(t, p, j, twice, twice, api.OK)
	expectTold(t, p, true, true, 0)
}

// P16.2: what is handed in stays as it is, its spare room too.
func TestFatesStay(t *testing.T) {
	p, j := of(t, 40)
	for range 40 {
		out, back := append(bad(), whole()...), append(whole(), bad()...)
		outBefore, backBefore := slices.Clone(out), slices.Clone(back)
		step(t, p, j, out[j.ticks%8:j.ticks%8+4], back[j.ticks%9:j.ticks%9+1])
		if !slices.Equal(out, outBefore) || !slices.Equal(back, backBefore) {
			t.Fatalf("%v, %v; were %v, %v", out, back, outBefore, backBefore)
		}
	}
}
