package session_test

import (
	"testing"

	"signpost/api"
)

// P16.2 and P16.3: Restart ahead of the first tick, behind each, and behind the last one, so often in a row: as if it hadn't been.
func TestRestart(t *testing.T) {
	for _, often := range []int{1, 2, 5} {
		for _, n := range counts() {
			p, j := of(t, n)
			again := func() {
				for range often {
					restart(t, p, j)
				}
			}
			again()
			expectTold(t, p, false, false, 0)
			for range (n + 7) / 8 {
				expectStep(t, p, j, nil, nil, api.OK)
				again()
			}
			expectTold(t, p, true, true, 0)
			for range 3 {
				expectStep(t, p, j, nil, nil, api.ErrDone)
				again()
			}
			expectTold(t, p, true, true, 0)
		}
	}
}

// P16.3: Restart behind each tick, at which some come and others don't.
func TestRestartWhileSomeAreThere(t *testing.T) {
	for _, f := range append(bad(), whole()...) {
		p, j := of(t, 33)
		row := whole()[:8]
		for tick := 0; !p.Done(); tick++ {
			row[tick%8] = f
			row[(tick+3)%8] = f
			if err := step(t, p, j, row, row[tick%3:]); err != api.OK {
				t.Fatalf("%v: tick %d: error %d", f, tick, err)
			}
			row[tick%8] = api.Fate{}
			restart(t, p, j)
		}
		expectStep(t, p, j, nil, nil, api.ErrDone)
	}
}

// P16.2: what was dropped is still counted behind Restart, and the sender still knows what it knew.
func TestRestartKeepsTheOthers(t *testing.T) {
	p, j := of(t, 8)
	expectStep(t, p, j, fates(3, flip(9)), nil, api.OK)
	expectTold(t, p, false, false, 3)
	restart(t, p, j)
	expectTold(t, p, false, false, 3)
	for range 3 {
		expectStep(t, p, j, nil, nil, api.OK)
	}
	expectStep(t, p, j, nil, nil, api.OK)
	expectTold(t, p, true, true, 3)
	restart(t, p, j)
	expectTold(t, p, true, true, 3)
}

// P16.2: behind a loss: the receiver still has what it had, and tells it.
func TestRestartBehindLost(t *testing.T) {
	p, j := of(t, 8)
	untilLost(t, p, j, api.Fate{}, kind(api.Drop))
	expectStep(t, p, j, nil, fates(1, kind(api.Drop)), api.ErrLost)
	restart(t, p, j)
	expectTold(t, p, true, false, 0)
	expectStep(t, p, j, nil, nil, api.ErrLost)
	expectTold(t, p, true, true, 0)
	restart(t, p, j)
	expectStep(t, p, j, nil, nil, api.ErrDone)
}

// P16.2: with any numbers of a session and an epoch, and with an empty text.
func TestRestartOfNumbers(t *testing.T) {
	for _, number := range rightNumbers() {
		for _, epoch := range rightNumbers() {
			for _, s := range []string{"", text(500)} {
				p, j := made(t, number, epoch, s, 64)
				restart(t, p, j)
				expectStep(t, p, j, nil, nil, api.OK)
				restart(t, p, j)
				for !p.Done() {
					expectStep(t, p, j, nil, nil, api.OK)
				}
				restart(t, p, j)
			}
		}
	}
}
